import PyProof.Rows.All
import Wide.All
import OpenK.AllK
import Wide.FinOn
import Lean
import PyProof.EqAt
import PyProof.EqKinds
import PyProof.TupleCall
import PyProof.NeKinds
import PySem.Challenge.RW_sidebook_k05_what_a_stand_comes_to
set_option Elab.async false
set_option linter.all false
set_option maxRecDepth 100000
/-! THE HAND LAYER, for ints, bools, texts, own classes, LISTS and tuples (index, slices, in, append, pop ..), calls, loops. Paste it whole ahead of your own text; what your proof does not reach may be deleted. -/
namespace L2
open PySem PySem.Spec PyProof.Rows

/-- a key: an int or a str -/
abbrev Key := Sum Int Str
def keyIs : Key → Value → Bool
  | .inl k, v => Value.isInt k v
  | .inr x, v => Value.isStrOf x v
def keyH (w : World) : Key → Int
  | .inl k => hashInt k
  | .inr x => hashStr w x
theorem keyIs_shape : ∀ {k : Key} {v : Value}, keyIs k v = true → (∃ i t, k = Sum.inl i ∧ v = Value.int i t) ∨ (∃ x t, k = Sum.inr x ∧ v = Value.str x t)
  | .inl i, v, h => by
    obtain ⟨t, e⟩ := Value.isInt_shape (k := i) (v := v) h
    exact .inl ⟨i, t, rfl, e⟩
  | .inr x, v, h => by
    obtain ⟨t, e⟩ := Value.isStrOf_shape (x := x) (v := v) h
    exact .inr ⟨x, t, rfl, e⟩
theorem keyIs_int (i : Int) (t : Tok) : keyIs (.inl i) (.int i t) = true := by simp [keyIs, Value.isInt]
theorem keyIs_str (x : Str) (t : Tok) : keyIs (.inr x) (.str x t) = true := by simp [keyIs, Value.isStrOf]
theorem key_ll (a b : Int) : decide ((Sum.inl a : Key) = Sum.inl b) = (a == b) := by
  by_cases e : a = b
  · subst e; simp
  · have h : ¬ (Sum.inl a : Key) = Sum.inl b := fun q => e (Sum.inl.inj q)
    rw [decide_eq_false h]
    exact (beq_eq_false_iff_ne.mpr e).symm
theorem key_rr (a b : Str) : decide ((Sum.inr a : Key) = Sum.inr b) = decide (a = b) := by
  by_cases e : a = b
  · subst e; simp
  · have h : ¬ (Sum.inr a : Key) = Sum.inr b := fun q => e (Sum.inr.inj q)
    rw [decide_eq_false h, decide_eq_false e]
theorem key_lr (a : Int) (b : Str) : decide ((Sum.inl a : Key) = Sum.inr b) = false := decide_eq_false (fun q => nomatch q)
theorem key_rl (a : Str) (b : Int) : decide ((Sum.inr a : Key) = Sum.inl b) = false := decide_eq_false (fun q => nomatch q)

def mixKind (prog : Program) (w : World) : PySem.KeyKind prog w Key where
  is := keyIs
  hash := keyH w
  inj := fun v a b ha hb => by
    rcases keyIs_shape ha with ⟨i, t, rfl, rfl⟩ | ⟨x, t, rfl, rfl⟩
    · rcases keyIs_shape hb with ⟨j, u, rfl, e⟩ | ⟨y, u, rfl, e⟩
      · injection e with e1 _; rw [e1]
      · exact nomatch e
    · rcases keyIs_shape hb with ⟨j, u, rfl, e⟩ | ⟨y, u, rfl, e⟩
      · exact nomatch e
      · injection e with e1 _; rw [e1]
  byValue := fun k v h => by
    rcases keyIs_shape h with ⟨i, t, rfl, rfl⟩ | ⟨x, t, rfl, rfl⟩ <;> rfl
  pyHash := fun hv h => by
    rcases keyIs_shape hv with ⟨i, t, rfl, rfl⟩ | ⟨x, t, rfl, rfl⟩
    · exact wpAny_pyHash_int h
    · exact wpAny_pyHash_str h
  eqBool := fun hu hv h => by
    rcases keyIs_shape hu with ⟨i, t, rfl, rfl⟩ | ⟨x, t, rfl, rfl⟩
    · rcases keyIs_shape hv with ⟨j, u, rfl, rfl⟩ | ⟨y, u, rfl, rfl⟩
      · rw [key_ll] at h; exact wpAny_eqBool_int h
      · rw [key_lr] at h; exact SeqAt.EqAt.int_str i t y u _ _ _ _ h
    · rcases keyIs_shape hv with ⟨j, u, rfl, rfl⟩ | ⟨y, u, rfl, rfl⟩
      · rw [key_rl] at h; exact SeqAt.EqAt.str_int x t j u _ _ _ _ h
      · rw [key_rr] at h; exact wpAny_eqBool_str h
  «strs» := fun k x t v h => by
    rcases keyIs_shape h with ⟨i, u, rfl, e⟩ | ⟨y, u, rfl, e⟩
    · exact nomatch e
    · injection e with e1 _
      subst e1
      cases v <;> rfl

theorem mixKind_is (prog : Program) (w : World) (k : Key) (v : Value) : (mixKind prog w).is k v = keyIs k v := rfl
theorem mixKind_int (prog : Program) (w : World) (i : Int) (t : Tok) : (mixKind prog w).is (.inl i) (.int i t) = true := keyIs_int i t
theorem mixKind_str (prog : Program) (w : World) (x : Str) (t : Tok) : (mixKind prog w).is (.inr x) (.str x t) = true := keyIs_str x t
end L2

namespace L2
open PySem PySem.Spec PyProof.Rows

/-- a value, without the heap -/
inductive V where
  | non | bl (b : Bool) | int (i : Int) | str (x : Str) | byt (b : Array UInt8) | flt (b : UInt64) | ref (a : Addr) | ty (n : String)
  deriving DecidableEq

def RelV : V → Value → Prop
  | .non, u => u = Value.none
  | .bl b, u => u = Value.bool b
  | .int i, u => ∃ t, u = Value.int i t
  | .str x, u => ∃ t, u = Value.str x t
  | .byt b, u => ∃ t, u = Value.bytes b t
  | .flt b, u => ∃ t, u = Value.float b t
  | .ref a, u => u = Value.ref a
  | .ty n, u => u = Value.type n

abbrev Vals : List V → List Value → Prop := Paired RelV
theorem Vals.length {xs : List V} {us : List Value} (r : Vals xs us) : xs.length = us.length := Paired.length r
theorem Vals.get : ∀ {xs : List V} {us : List Value} {i : Nat} {x : V}, Vals xs us → xs[i]? = some x → ∃ u, us[i]? = some u ∧ RelV x u
  | _, _, _, _, .nil, e => by simp at e
  | _, _, 0, _, .cons r _, e => by simp at e; subst e; exact ⟨_, rfl, r⟩
  | _, _, i + 1, x, .cons _ t, e => by
    obtain ⟨u, h1, h2⟩ := Vals.get (i := i) (x := x) t (by simpa using e)
    exact ⟨u, by simpa using h1, h2⟩
theorem Vals.set {x : V} {u : Value} (r : RelV x u) : ∀ {xs : List V} {us : List Value} (i : Nat), Vals xs us → Vals (xs.set i x) (us.set i u)
  | _, _, _, .nil => .nil
  | _, _, 0, .cons _ t => .cons r t
  | _, _, i + 1, .cons q t => .cons q (Vals.set r i t)
theorem Vals.append : ∀ {xs ys : List V} {us ws : List Value}, Vals xs us → Vals ys ws → Vals (xs ++ ys) (us ++ ws)
  | _, _, _, _, .nil, s => s
  | _, _, _, _, .cons r t, s => .cons r (Vals.append t s)
theorem Vals.take : ∀ {xs : List V} {us : List Value} (n : Nat), Vals xs us → Vals (xs.take n) (us.take n)
  | _, _, 0, _ => .nil
  | _, _, _ + 1, .nil => .nil
  | _, _, n + 1, .cons r t => .cons r (Vals.take n t)
theorem Vals.drop : ∀ {xs : List V} {us : List Value} (n : Nat), Vals xs us → Vals (xs.drop n) (us.drop n)
  | _, _, 0, r => r
  | _, _, _ + 1, .nil => .nil
  | _, _, n + 1, .cons _ t => Vals.drop n t
theorem Vals.none_of : ∀ {xs : List V} {us : List Value} {i : Nat}, Vals xs us → xs[i]? = none → us[i]? = none := fun {xs us i} r e => by
  have h1 := r.length
  have h2 : xs.length ≤ i := List.getElem?_eq_none_iff.mp e
  exact List.getElem?_eq_none_iff.mpr (by omega)

def RelO : Option V → Option Value → Prop
  | some v, some u => RelV v u
  | none, none => True
  | _, _ => False
def KV {κ : Type} : List (κ × V) → List (κ × Value) → Prop := Paired fun (p : κ × V) (q : κ × Value) => p.1 = q.1 ∧ RelV p.2 q.2

/-- a key of a dict (00_mix): an int or a text -/
def kV : Key → V
  | .inl i => .int i
  | .inr x => .str x

/-- what stands at a tracked address -/
inductive HO where
  /-- a list -/
  | lst (xs : List V)
  /-- a tuple (never changes) -/
  | tup (xs : List V)
  /-- a dict whose keys are ints and texts; one whose keys are tuples of ints and texts (the empty one is both) -/
  | dK (kvs : List (Key × V)) | dT (kvs : List (List Key × V))
  /-- a set of ints: its members, its size -/
  | set (S : Int → Bool) (n : Nat)
  /-- an instance of the class at C, its dict at dx, its attributes -/
  | ins (C dx : Addr) (fs : List (Str × V))
  /-- the dict of the instance at x -/
  | own (x : Addr)
  /-- the dict of an exception -/
  | xd (fs : List (Str × V))
  /-- a bound method, f of x -/
  | met (f x : Addr)
  /-- a range object lo, lo + 1, .. below hi -/
  | rng (lo hi : Int)
  /-- a thing that is known to the object (the script; a dict while a loop walks it): read, never written while it is so -/
  | frz (o : Obj) (u : HO)
  /-- a code object's table -/
  | tbl (ps : Array Value)
  /-- any other thing, by what is true of its one object (a def of one's own: SetO a S n := HO.ext fun h => ..) -/
  | ext (φ : Heap → Prop)

abbrev Hp := Addr → Option HO
def upd (H : Hp) (a : Addr) (o : HO) : Hp := fun b => if b = a then some o else H b
theorem upd_same {H : Hp} {a : Addr} {o : HO} : upd H a o a = some o := by unfold upd; rw [if_pos rfl]
theorem upd_ne {H : Hp} {a b : Addr} {o : HO} (h : b ≠ a) : upd H a o b = H b := by unfold upd; rw [if_neg h]
theorem upd_upd {H : Hp} {a : Addr} {o u : HO} : upd (upd H a o) a u = upd H a u := by
  funext b; unfold upd; split <;> rfl
/-- two objects of different content stand apart -/
theorem ne_of {H : Hp} {a b : Addr} {o u : HO} (h : H a = some o) (h' : H b = some u) (d : o ≠ u) : a ≠ b := by
  intro e; subst e; rw [h] at h'; exact d (Option.some.inj h')
theorem ne_of_none {H : Hp} {a b : Addr} {o : HO} (h : H a = some o) (h' : H b = none) : a ≠ b := by
  intro e; subst e; rw [h] at h'; cases h'

section
variable (P : Program) (w : World)
def ObjOk (H : Hp) (h : Heap) (a : Addr) : HO → Prop
  | .lst xs => xs.length ≤ sizeLine ∧ ∃ (its : List Value) (n : Nat), Vals xs its ∧ h.get? a = some { cls := .type "list", data := .seq its.toArray n }
  | .tup xs => xs.length ≤ sizeLine ∧ ∃ its : List Value, Vals xs its ∧ IsTup h a its.toArray
  | .dK kvs => kvs.length ≤ sizeLine ∧ (a == sysModules) = false ∧ ∃ vs, KV kvs vs ∧ h.DictOf (mixKind P w) a vs
  | .dT kvs => kvs.length ≤ sizeLine ∧ (a == sysModules) = false ∧ ∃ xs : List (List Key × Addr × Value),
      Paired (fun (p : List Key × V) (q : List Key × Addr × Value) => p.1 = q.1 ∧ H q.2.1 = some (.tup (p.1.map kV)) ∧ RelV p.2 q.2.2) kvs xs ∧
      ∃ o es ep, h.get? a = some o ∧ o.ExactDict ∧ o.data = .dict es ep ∧ es.toList = xs.map (entryOfKey (tupleKind (mixKind P w))) ∧ (xs.map (·.1)).Nodup
  | .set S n => h.SetOf (intKind P w) a S n
  | .ins C dx fs => H dx = some (.own a) ∧ fs.length ≤ 1000 ∧ dx ≠ a ∧ h.get? a = some (PySem.W.instObj C dx) ∧
      ∃ mA, h.Ns1 dx mA ∧ (∀ f, RelO (fs.lookup f) (mA f)) ∧ PySem.Within mA (fs.map (·.1))
  | .own _ => ∃ o, h.get? a = some o
  | .xd fs => ∃ mA, h.Ns1 a mA ∧ ∀ f, RelO (fs.lookup f) (mA f)
  | .rng lo hi => ∃ t u v, h.get? a = some { cls := .type "range", data := .fields #[.int lo t, .int hi u, .int 1 v] }
  | .frz o u => h.get? a = some o ∧ ObjOk H h a u
  | .tbl ps => h.get? a = some { cls := .none, data := .fields ps }
  | .met f x => h.get? a = some (PySem.W.methodObj (.ref f) (.ref x))
  | .ext φ => φ h ∧ (∃ o, h.get? a = some o) ∧ ∀ h1 h2 : Heap, φ h1 → (∀ o, h1.get? a = some o → h2.get? a = some o) → φ h2
/-- the abstract heap is held -/
def HOk (H : Hp) (h : Heap) : Prop := ∀ a o, H a = some o → ObjOk P w H h a o
end

section
variable {P : Program} {w : World} {H H' : Hp} {h h' : Heap} {a : Addr} {o : HO}
theorem ObjOk.lt (x : ObjOk P w H h a o) : a < h.objs.size := by
  cases o with
  | lst xs => obtain ⟨_, _, _, _, e⟩ := x; exact Heap.lt_size e
  | tup xs => obtain ⟨_, _, _, p⟩ := x; exact p.lt
  | dK kvs => obtain ⟨_, _, _, _, o, _, _, e, _⟩ := x; exact Heap.lt_size e
  | dT kvs => obtain ⟨_, _, _, _, o, _, _, e, _⟩ := x; exact Heap.lt_size e
  | set S n => obtain ⟨o, _, _, _, e, _⟩ := x; exact Heap.lt_size e
  | ins C dx fs => obtain ⟨_, _, _, e, _⟩ := x; exact Heap.lt_size e
  | own y => obtain ⟨_, e⟩ := x; exact Heap.lt_size e
  | xd fs => obtain ⟨_, ⟨_, _, _, e, _⟩, _⟩ := x; exact Heap.lt_size e
  | rng lo hi => obtain ⟨_, _, _, e⟩ := x; exact Heap.lt_size e
  | frz ob u => obtain ⟨e, _⟩ := x; exact Heap.lt_size e
  | tbl ps => exact Heap.lt_size (show h.get? a = some _ from x)
  | met f y => exact Heap.lt_size (show h.get? a = some _ from x)
  | ext φ => obtain ⟨_, ⟨_, e⟩, _⟩ := x; exact Heap.lt_size e
theorem Paired.mapP {α β : Type} {F G : α → β → Prop} : ∀ {l₁ : List α} {l₂ : List β}, Paired F l₁ l₂ → (∀ a b, F a b → G a b) → Paired G l₁ l₂
  | _, _, .nil, _ => .nil
  | _, _, .cons r t, f => .cons (f _ _ r) (Paired.mapP t f)
theorem Paired.imp' {α β : Type} {F G : α → β → Prop} (f : ∀ a b, F a b → G a b) {l₁ : List α} {l₂ : List β} (r : Paired F l₁ l₂) : Paired G l₁ l₂ := Paired.mapP r f
/-- what an object's description leans on: its own object, its own dict, the tuples -/
theorem ObjOk.stay (x : ObjOk P w H h a o) (k : ∀ b u, (b = a ∨ H b = some (.own a)) → h.get? b = some u → h'.get? b = some u)
    (ho : ∀ b, H b = some (.own a) → H' b = some (.own a)) (ht : ∀ b xs, H b = some (.tup xs) → H' b = some (.tup xs)) : ObjOk P w H' h' a o := by
  induction o with
  | lst xs => obtain ⟨z, its, n, r, e⟩ := x; exact ⟨z, its, n, r, k _ _ (.inl rfl) e⟩
  | tup xs => obtain ⟨z, its, r, ob, e, c⟩ := x; exact ⟨z, its, r, ob, k _ _ (.inl rfl) e, c⟩
  | dK kvs => obtain ⟨z, y, vs, r, ob, es, ep, e, c⟩ := x; exact ⟨z, y, vs, r, ob, es, ep, k _ _ (.inl rfl) e, c⟩
  | dT kvs =>
    obtain ⟨z, y, xs, r, ob, es, ep, e, c⟩ := x
    exact ⟨z, y, xs, Paired.mapP r fun p q z => ⟨z.1, ht _ _ z.2.1, z.2.2⟩, ob, es, ep, k _ _ (.inl rfl) e, c⟩
  | set S n => obtain ⟨ob, es, ep, t, e, c⟩ := x; exact ⟨ob, es, ep, t, k _ _ (.inl rfl) e, c⟩
  | ins C dx fs =>
    obtain ⟨d, z, ne, e, mA, ⟨od, es, ep, e2, c⟩, r⟩ := x
    exact ⟨ho _ d, z, ne, k _ _ (.inl rfl) e, mA, ⟨od, es, ep, k _ _ (.inr d) e2, c⟩, r⟩
  | own y => obtain ⟨ob, e⟩ := x; exact ⟨ob, k _ _ (.inl rfl) e⟩
  | xd fs => obtain ⟨mA, ⟨od, es, ep, e, c⟩, r⟩ := x; exact ⟨mA, ⟨od, es, ep, k _ _ (.inl rfl) e, c⟩, r⟩
  | rng lo hi => obtain ⟨t, u, v, e⟩ := x; exact ⟨t, u, v, k _ _ (.inl rfl) e⟩
  | frz ob u ih => obtain ⟨e, q⟩ := x; exact ⟨k _ _ (.inl rfl) e, ih q⟩
  | tbl ps =>
    have e : h.get? a = some { cls := .none, data := .fields ps } := x
    show h'.get? a = some { cls := .none, data := .fields ps }
    exact k a _ (.inl rfl) e
  | met f y =>
    have e : h.get? a = some (PySem.W.methodObj (.ref f) (.ref y)) := x
    show h'.get? a = some (PySem.W.methodObj (.ref f) (.ref y))
    exact k a _ (.inl rfl) e
  | ext φ => obtain ⟨p, ⟨o, e⟩, st⟩ := x; exact ⟨st _ _ p fun o q => k _ _ (.inl rfl) q, ⟨o, k _ _ (.inl rfl) e⟩, st⟩
theorem HOk.lt (x : HOk P w H h) (e : H a = some o) : a < h.objs.size := (x a o e).lt
theorem HOk.fresh (x : HOk P w H h) (e : h.objs.size ≤ a) : H a = none := by
  cases q : H a with
  | none => rfl
  | some u => exact absurd (Nat.lt_of_lt_of_le (x.lt q) e) (Nat.lt_irrefl _)
/-- every object of the heap is kept -/
theorem HOk.kept (x : HOk P w H h) (k : ∀ b u, h.get? b = some u → h'.get? b = some u) : HOk P w H h' := fun a o e =>
  (x a o e).stay (fun b u _ q => k b u q) (fun _ q => q) fun _ _ q => q
/-- a new object is laid and tracked -/
theorem HOk.laid (x : HOk P w H h) (k : ∀ b u, h.get? b = some u → h'.get? b = some u) (hp : h.objs.size ≤ a) (new : ObjOk P w (upd H a o) h' a o) : HOk P w (upd H a o) h' := fun b u e => by
  have hn := x.fresh hp
  by_cases hb : b = a
  · subst hb; rw [upd_same] at e; cases e; exact new
  · rw [upd_ne hb] at e
    exact (x b u e).stay (fun c v _ q => k c v q) (fun c q => by rw [upd_ne (ne_of_none q hn)]; exact q) fun c xs q => by rw [upd_ne (ne_of_none q hn)]; exact q
end

/-- what may be read as u: it is u, or a known u -/
def Rd (H : Hp) (a : Addr) (u : HO) : Prop := H a = some u ∨ ∃ o, H a = some (.frz o u)
theorem Rd.of {H : Hp} {a : Addr} {u : HO} (h : H a = some u) : Rd H a u := .inl h
theorem Rd.ok {P : Program} {w : World} {H : Hp} {h : Heap} {a : Addr} {u : HO} (r : Rd H a u) (x : HOk P w H h) : ObjOk P w H h a u := by
  rcases r with r | ⟨o, r⟩
  · exact x a u r
  · obtain ⟨_, q⟩ := x a _ r
    exact q
/-- what may be written -/
def Mut : Option HO → Prop
  | some (.lst _) => True
  | some (.dK _) => True
  | some (.dT _) => True
  | some (.set _ _) => True
  | some (.ins _ _ _) => True
  | some (.ext _) => True
  | _ => False
section
variable {P : Program} {w : World} {H : Hp} {h h' : Heap} {x e : Addr} {o' : HO}
/-- the object at e is changed: x itself, or the dict of the instance x -/
theorem HOk.write (ok : HOk P w H h) (mu : Mut (H x)) (he : e = x ∨ H e = some (.own x)) (k : ∀ b u, b ≠ e → h.get? b = some u → h'.get? b = some u) (heo : ∃ u, h'.get? e = some u)
    (new : ObjOk P w (upd H x o') h' x o') : HOk P w (upd H x o') h' := fun b u q => by
  have nown : ∀ c y, H c = some (.own y) → c ≠ x := fun c y r z => by subst z; rw [r] at mu; exact mu
  have ntup : ∀ c xs, H c = some (.tup xs) → c ≠ x := fun c xs r z => by subst z; rw [r] at mu; exact mu
  by_cases hb : b = x
  · subst hb; rw [upd_same] at q; cases q; exact new
  · rw [upd_ne hb] at q
    by_cases hbe : b = e
    · have q' : H b = some (.own x) := by
        rcases he with z | z
        · exact absurd (hbe.trans z) hb
        · rw [hbe]; exact z
      rw [q] at q'; cases q'
      obtain ⟨v, hv⟩ := heo
      exact ⟨v, by rw [hbe]; exact hv⟩
    · refine (ok b u q).stay (fun c v hc r => k c v ?_ r) (fun c r => by rw [upd_ne (nown c b r)]; exact r) fun c xs r => by rw [upd_ne (ntup c xs r)]; exact r
      rcases hc with rfl | hc
      · exact hbe
      · rintro rfl
        rcases he with z | z
        · exact nown c b hc z
        · rw [hc] at z; cases z; exact hb rfl
end

/-! ### kept unless tracked; of the frames at fs (the callers') the slots may change (an exception that passes writes there); of the records at ex (iterators) nothing is said -/
structure Un (fs ex : List Addr) (H H' : Hp) (h h' : Heap) : Prop where
  keep : ∀ b o, h.get? b = some o → H b = none → b ∉ fs → b ∉ ex → h'.get? b = some o
  slot : ∀ b o, h.get? b = some o → H b = none → b ∈ fs → b ∉ ex → ∃ sl, h'.get? b = some { o with slots := sl }
  free : ∀ b o, h.get? b = some o → H b = none → b ∉ ex → H' b = none
  there : ∀ b o, h.get? b = some o → b ∉ ex → ∃ o', h'.get? b = some o'
  tups : ∀ b xs, H b = some (.tup xs) → H' b = some (.tup xs)
  frzs : ∀ b o u, H b = some (.frz o u) → H' b = some (.frz o u)
  tbls : ∀ b ps, H b = some (.tbl ps) → ∃ more, H' b = some (.tbl (ps ++ more))
section
variable {fs fs' ex ex' : List Addr} {H H1 H2 : Hp} {h h1 h2 h' : Heap} {a x e : Addr} {o : HO}
theorem Un.any (u : Un fs ex H H1 h h1) {b : Addr} {ob : Obj} (q : h.get? b = some ob) (n : H b = none) (hx : b ∉ ex) : ∃ sl, h1.get? b = some { ob with slots := sl } := by
  by_cases hb : b ∈ fs
  · exact u.slot b ob q n hb hx
  · exact ⟨ob.slots, u.keep b ob q n hb hx⟩
theorem Un.trans (a : Un fs ex H H1 h h1) (b : Un fs ex H1 H2 h1 h2) : Un fs ex H H2 h h2 where
  keep := fun c ob q n hc hx => b.keep c ob (a.keep c ob q n hc hx) (a.free c ob q n hx) hc hx
  slot := fun c ob q n hc hx => by
    obtain ⟨sl, e1⟩ := a.slot c ob q n hc hx
    obtain ⟨sl', e2⟩ := b.slot c _ e1 (a.free c ob q n hx) hc hx
    exact ⟨sl', e2⟩
  free := fun c ob q n hx => by
    obtain ⟨o', e1⟩ := a.there c ob q hx
    exact b.free c o' e1 (a.free c ob q n hx) hx
  there := fun c ob q hx => by
    obtain ⟨o', e1⟩ := a.there c ob q hx
    exact b.there c o' e1 hx
  tups := fun c xs q => b.tups c xs (a.tups c xs q)
  frzs := fun c ob xs q => b.frzs c ob xs (a.frzs c ob xs q)
  tbls := fun c ps q => by
    obtain ⟨m1, e1⟩ := a.tbls c ps q
    obtain ⟨m2, e2⟩ := b.tbls c _ e1
    exact ⟨m1 ++ m2, by rw [e2, Array.append_assoc]⟩
theorem Un.kept (k : ∀ b u, h.get? b = some u → h'.get? b = some u) : Un fs ex H H h h' :=
  ⟨fun b ob q _ _ _ => k b ob q, fun b ob q _ _ _ => ⟨ob.slots, k b ob q⟩, fun _ _ _ n _ => n, fun b ob q _ => ⟨ob, k b ob q⟩, fun _ _ q => q, fun _ _ _ q => q, fun _ ps q => ⟨#[], by rw [q]; simp⟩⟩
theorem Un.refl : Un fs ex H H h h := Un.kept fun _ _ q => q
theorem Un.laid (k : ∀ b u, h.get? b = some u → h'.get? b = some u) (hp : h.objs.size ≤ a) (hn : H a = none) : Un fs ex H (upd H a o) h h' where
  keep := fun b u q _ _ _ => k b u q
  slot := fun b u q _ _ _ => ⟨u.slots, k b u q⟩
  free := fun b u q n _ => by rw [upd_ne (Nat.ne_of_lt (Nat.lt_of_lt_of_le (Heap.lt_size q) hp))]; exact n
  there := fun b u q _ => ⟨u, k b u q⟩
  tups := fun b xs q => by rw [upd_ne (ne_of_none q hn)]; exact q
  frzs := fun b u xs q => by rw [upd_ne (ne_of_none q hn)]; exact q
  tbls := fun b ps q => ⟨#[], by rw [upd_ne (ne_of_none q hn), q]; simp⟩
theorem Un.write (mu : Mut (H x)) (he : e = x ∨ H e = some (.own x)) (k : ∀ b u, b ≠ e → h.get? b = some u → h'.get? b = some u) (heo : ∃ u, h'.get? e = some u) : Un fs ex H (upd H x o) h h' := by
  have hx : ∀ b, H b = none → b ≠ x := fun b n z => by subst z; rw [n] at mu; exact mu
  have hb : ∀ b, H b = none → b ≠ e := fun b n z => by
    subst z
    rcases he with r | r
    · exact hx b n r
    · rw [n] at r; cases r
  have hm : ∀ b u, H b = some u → ¬ Mut (some u) → b ≠ x := fun b u q nm z => by subst z; rw [q] at mu; exact nm mu
  refine ⟨fun b u q n _ _ => k b u (hb b n) q, fun b u q n _ _ => ⟨u.slots, k b u (hb b n) q⟩, fun b u q n _ => by rw [upd_ne (hx b n)]; exact n, fun b u q _ => ?_,
    fun b xs q => by rw [upd_ne (hm b _ q fun z => z)]; exact q, fun b u xs q => by rw [upd_ne (hm b _ q fun z => z)]; exact q, fun b ps q => ⟨#[], by rw [upd_ne (hm b _ q fun z => z), q]; simp⟩⟩
  by_cases hbe : b = e
  · subst hbe; exact heo
  · exact ⟨u, k b u hbe q⟩
theorem Un.mono (u : Un fs ex H H1 h h1) (hs : ∀ b ∈ fs, b ∈ fs') (hx : ∀ b ∈ ex, b ∈ ex') : Un fs' ex' H H1 h h1 :=
  ⟨fun b ob q n hb he => u.keep b ob q n (fun z => hb (hs b z)) fun z => he (hx b z), fun _ _ q n _ he => u.any q n fun z => he (hx _ z), fun b ob q n he => u.free b ob q n fun z => he (hx b z), fun b ob q he => u.there b ob q fun z => he (hx b z), u.tups, u.frzs, u.tbls⟩
end

/-! ### the heap without what is tracked -/
def trk (h : Heap) (H : Hp) : List Addr := (List.range h.objs.size).filter fun a => (H a).isSome
def hidT (h : Heap) (H : Hp) : Heap := PySem.W.hideAll h (trk h H)
theorem hidT_size (h : Heap) (H : Hp) : (hidT h H).objs.size = h.objs.size := PySem.W.hideAll_size _ _
theorem hidT_get {h : Heap} {H : Hp} {b : Addr} {o : Obj} (e : h.get? b = some o) (n : H b = none) : (hidT h H).get? b = some o :=
  PySem.W.hideAll_get _ e fun hm => by
    have q : (H b).isSome = true := (List.mem_filter.mp hm).2
    rw [n] at q; simp at q
theorem of_hidT {h : Heap} {H : Hp} {b : Addr} {o : Obj} (e : (hidT h H).get? b = some o) : h.get? b = some o ∧ H b = none := by
  have e' : h.get? b = some o := PySem.W.of_hideAll (trk h H) e
  refine ⟨e', ?_⟩
  cases q : H b with
  | none => rfl
  | some x =>
    have hm : b ∈ trk h H := List.mem_filter.mpr ⟨List.mem_range.mpr (Heap.lt_size e'), by simp [q]⟩
    have z : (hidT h H).get? b = none := PySem.W.hideAll_none (trk h H) hm
    rw [z] at e; cases e

/-! ### OpenK's ledger, filled with every new object but one -/
def allNews (g h : Heap) (L : Addr) : List (Addr × Obj) := (List.range h.objs.size).filterMap fun a => if a = L ∨ (g.get? a).isSome = true then none else (h.get? a).map fun o => (a, o)
theorem mem_allNews {g h : Heap} {L a : Addr} {o : Obj} (h1 : a ≠ L) (h2 : g.get? a = none) (h3 : h.get? a = some o) : (a, o) ∈ allNews g h L :=
  List.mem_filterMap.mpr ⟨a, List.mem_range.mpr (Heap.lt_size h3), by simp [h1, h2, h3]⟩
theorem of_mem_allNews {g h : Heap} {L : Addr} {p : Addr × Obj} (hp : p ∈ allNews g h L) : p.1 ≠ L ∧ g.get? p.1 = none ∧ h.get? p.1 = some p.2 := by
  obtain ⟨b, _, e⟩ := List.mem_filterMap.mp hp
  split at e
  · cases e
  · rename_i hn
    cases q : h.get? b with
    | none => rw [q] at e; simp at e
    | some u =>
      rw [q] at e
      simp only [Option.map_some, Option.some.injEq] at e
      subst e
      refine ⟨fun z => hn (.inl z), ?_, q⟩
      show g.get? b = none
      cases r : g.get? b with
      | none => rfl
      | some v => exact (hn (.inr (by simp [r]))).elim
def rest (g h : Heap) (L d : Addr) : List (Addr × Obj) := (allNews g h L).filter fun p => decide (p.1 ≠ d)
theorem rest_ne {g h : Heap} {L d : Addr} : ∀ p ∈ rest g h L d, p.1 ≠ d := fun p hp => of_decide_eq_true (List.mem_filter.mp hp).2
theorem mem_rest {g h : Heap} {L d a : Addr} {o : Obj} (h1 : a ≠ L) (h2 : g.get? a = none) (h3 : h.get? a = some o) (h4 : a ≠ d) : (a, o) ∈ rest g h L d :=
  List.mem_filter.mpr ⟨mem_allNews h1 h2 h3, decide_eq_true h4⟩
theorem news_all {g h : Heap} {L : Addr} : News g L h (allNews g h L) := fun p hp => let ⟨a, b, c⟩ := of_mem_allNews hp; ⟨c, a, b⟩
theorem news_at {g h : Heap} {L d : Addr} {o : Obj} (h1 : d ≠ L) (h2 : g.get? d = none) (h3 : h.get? d = some o) : News g L h ((d, o) :: rest g h L d) := fun p hp => by
  rcases List.mem_cons.mp hp with rfl | hp
  · exact ⟨h3, h1, h2⟩
  · exact news_all p (List.mem_filter.mp hp).1
/-- behind a rule that changed d alone: all else but the frame is kept -/
theorem kept_of_news {g h h' : Heap} {L d : Addr} {m : Str → Option Value} (k : ∀ b o, g.get? b = some o → h.get? b = some o) (F : Fr g L h' m) (N : News g L h' (rest g h L d)) :
    ∀ b o, b ≠ L → b ≠ d → h.get? b = some o → h'.get? b = some o := fun b o h1 h2 e => by
  cases q : g.get? b with
  | some u =>
    have := k b u q
    rw [e] at this; cases this
    exact F.keep b _ q
  | none => exact (N (b, o) (mem_rest h1 q e h2)).1
end L2

namespace L2
open PySem PySem.Spec PyProof.Rows

/-- the module's facts, over the base: the heap at the law's entry without what is tracked there -/
structure Mod (K : PySem.W.Frag) (mg : Str → Option Value) (base : Heap) : Prop where
  kin : K.In base
  glob : base.Ns mainGlobals mg
  blt : ∃ mb, base.Ns builtinsNs mb ∧ ∀ x : Str, x ≠ "__name__" → mb x = bootBuiltins x
  nolimit : base.NoLimit

/-- the context: a def's body (or a comprehension's block) running. base: fixed through the whole law; s₀, H₀: the entry; outer: the frames whose slots others may change (a def's callers); stack: all frames that run;
   ex: iterators that were made ahead of the entry and are walked here (a comprehension's); fn: the names whose cells were made at the entry (a def: all; a comprehension's block: its own); calm: not within an except suite; pn: pins that every state bears; xe: what is wanted of an exception that leaves the code -/
structure Cx where
  prog : Program
  w : World
  K : PySem.W.Frag
  mg : Str → Option Value
  base : Heap
  A : Around
  N : List Str
  s₀ : Shared
  H₀ : Hp
  env : Env
  outer : List Env
  stack : List Env
  ex : List Addr
  fn : Str → Bool
  calm : Bool
  pn : List (Addr × Obj)
  xe : Value → Shared → Prop
/-- the callers' frames -/
def frs (l : List Env) : List Addr := l.filterMap (·.frame)
abbrev Cx.fs (X : Cx) : List Addr := frs X.outer

def Vis (sc : Scope) (x : Str) : Prop := sc.names.lookup x = some .local ∨ sc.names.lookup x = some .cell ∨ sc.names.lookup x = some .free
def Loc (sc : Scope) (x : Str) : Prop := sc.names.lookup x = some .local ∨ sc.names.lookup x = some .cell
def Look (env : Env) (h : Heap) (m : Str → Option Value) (x : Str) (u : Value) : Prop :=
  (env.kindOf x = some .local ∧ m x = some u) ∨ ((env.kindOf x = some .cell ∨ env.kindOf x = some .free) ∧ ∃ c, env.cells.lookup x = some c ∧ h.IsCell c (some u))

structure Cx.Ok (X : Cx) : Prop where
  mod : Mod X.K X.mg X.base
  kind : X.env.scope.kind = .function
  glob : X.env.globals = mainGlobals
  blt : X.env.builtins = builtinsNs
  above : X.s₀.heap.objs.size ≤ X.env.locals
  inj : ∀ x y c, X.env.cells.lookup x = some c → X.env.cells.lookup y = some c → x = y
  has : ∀ x, (X.env.kindOf x = some .cell ∨ X.env.kindOf x = some .free) → ∃ c, X.env.cells.lookup x = some c
  cab : ∀ x c, X.fn x = true → X.env.cells.lookup x = some c → X.s₀.heap.objs.size ≤ c
  hd : X.calm = true → X.A.handled = none
  frames : X.A.frames = some X.stack
  stk : X.stack = X.outer ∨ (X.stack = X.env :: X.outer ∧ X.env.frame = some X.env.locals)
  exf : ∀ b ∈ X.ex, b ≠ X.env.locals ∧ ∀ x c, X.env.cells.lookup x = some c → c ≠ b
  bs : ∀ b o, X.base.get? b = some o → X.s₀.heap.get? b = some o ∧ X.H₀ b = none
  bsz : X.base.objs.size ≤ X.s₀.heap.objs.size
  noex : ∀ b o, X.base.get? b = some o → b ∉ X.ex
  exfs : ∀ b ∈ X.ex, b ∉ X.fs
  funs : X.s₀.heap.FunFrames X.base X.outer
  frf : ∀ b ∈ X.fs, X.H₀ b = none

structure Inv (X : Cx) (pins : List (Addr × Obj)) (σ : List (Option V)) (H : Hp) (s : Shared) : Prop where
  ok : X.Ok
  os : s.os = X.s₀.os
  bare : AllBare s.gens
  base : Un X.fs X.ex X.H₀ H X.s₀.heap s.heap
  loc : ∃ m, s.heap.Ns X.env.locals m ∧ ∀ (i : Nat) (x : Str) (v : V), X.N[i]? = some x → σ[i]? = some (some v) → Vis X.env.scope x → ∃ u, RelV v u ∧ Look X.env s.heap m x u
  cell : ∀ x c, X.env.cells.lookup x = some c → ∃ v, s.heap.IsCell c v
  free : H X.env.locals = none
  freeC : ∀ x c, X.env.cells.lookup x = some c → H c = none
  pin : ∀ p ∈ X.pn ++ pins, s.heap.get? p.1 = some p.2 ∧ H p.1 = none ∧ p.1 ≠ X.env.locals ∧ p.1 ∉ X.fs ∧ ∀ v, p.2.data ≠ .cell v
  hok : HOk X.prog X.w H s.heap
  len : σ.length = X.N.length

section
variable {X : Cx} {pins : List (Addr × Obj)} {σ : List (Option V)} {H H' : Hp} {s : Shared} {h' : Heap}

theorem Cx.Ok.nofr (ok : X.Ok) {b : Addr} {o : Obj} (e : X.base.get? b = some o) : b ∉ X.fs := fun hb => by
  have := (ok.funs.mem hb).1
  rw [e] at this; cases this
theorem Inv.bs (I : Inv X pins σ H s) : ∀ b o, X.base.get? b = some o → s.heap.get? b = some o ∧ H b = none := fun b o e =>
  ⟨I.base.keep b o (I.ok.bs b o e).1 (I.ok.bs b o e).2 (I.ok.nofr e) (I.ok.noex b o e), I.base.free b o (I.ok.bs b o e).1 (I.ok.bs b o e).2 (I.ok.noex b o e)⟩
theorem Inv.bk (I : Inv X pins σ H s) : ∀ b o, X.base.get? b = some o → s.heap.get? b = some o := fun b o e => (I.bs b o e).1
theorem Inv.mod (I : Inv X pins σ H s) : Mod X.K X.mg X.base := I.ok.mod
theorem Inv.kIn (I : Inv X pins σ H s) : X.K.In s.heap := I.ok.mod.kin.keeps I.bk
theorem Inv.nolimit (I : Inv X pins σ H s) : s.heap.NoLimit := I.ok.mod.nolimit.keeps I.bk
/-- the frame over the base: for OpenK's rules (K.In X.base is I.mod.kin) -/
theorem Inv.fr (I : Inv X pins σ H s) : ∃ m, Fr X.base X.env.locals s.heap m :=
  let ⟨m, hn, _⟩ := I.loc
  ⟨m, hn, I.bk, Nat.le_trans I.ok.bsz I.ok.above⟩
theorem Inv.lt (I : Inv X pins σ H s) : X.env.locals < s.heap.objs.size := let ⟨_, hn, _⟩ := I.loc; hn.lt
theorem Inv.sz (I : Inv X pins σ H s) : X.s₀.heap.objs.size ≤ s.heap.objs.size := Nat.le_trans I.ok.above (Nat.le_of_lt I.lt)
theorem Inv.nofs (I : Inv X pins σ H s) {a : Addr} (h : s.heap.objs.size ≤ a) : a ∉ X.fs := fun hb => by
  obtain ⟨_, o, ho, _⟩ := I.ok.funs.mem hb
  exact absurd (Nat.lt_of_lt_of_le (Heap.lt_size ho) (Nat.le_trans I.sz h)) (Nat.lt_irrefl _)
theorem Inv.cne (I : Inv X pins σ H s) : ∀ x c, X.env.cells.lookup x = some c → c ≠ X.env.locals := fun x c e z => by
  obtain ⟨v, o, ho, hd⟩ := I.cell x c e
  obtain ⟨m, ⟨o', es, ep, ho', hd', _⟩, _⟩ := I.loc
  rw [z, ho'] at ho; cases ho; rw [hd'] at hd; cases hd
theorem Inv.funs (I : Inv X pins σ H s) : s.heap.FunFrames X.base X.outer := by
  have all : ∀ (l : List Env), (∀ b ∈ frs l, b ∈ X.fs) → X.s₀.heap.FunFrames X.base l → s.heap.FunFrames X.base l := by
    intro l
    induction l with
    | nil => intro _ _; trivial
    | cons env r ih =>
      intro hs hl
      obtain ⟨hk, ⟨L, o, hf, hn, ho, hd⟩, hr⟩ := hl
      have hL : L ∈ X.fs := hs L (by unfold frs; rw [List.filterMap_cons, hf]; exact List.mem_cons_self)
      obtain ⟨sl, e⟩ := I.base.slot L o ho (I.ok.frf L hL) hL fun z => I.ok.exfs L z hL
      exact ⟨hk, ⟨L, _, hf, hn, e, hd⟩, ih (fun b hb => hs b (by unfold frs; rw [List.filterMap_cons, hf]; exact List.mem_cons_of_mem _ hb)) hr⟩
  exact all X.outer (fun _ hb => hb) I.ok.funs

/-- the frames that run, for a call -/
theorem Inv.stack (I : Inv X pins σ H s) : s.heap.FunFrames X.base X.stack := by
  rcases I.ok.stk with e | ⟨e, hf⟩
  · rw [e]; exact I.funs
  · rw [e]
    obtain ⟨m, hn, _⟩ := I.loc
    refine .cons (by rw [I.ok.kind]; decide) hf hn ?_ I.funs
    exact Heap.get?_none_of_le (Nat.le_trans I.ok.bsz I.ok.above)
theorem Inv.stkSub (I : Inv X pins σ H s) : ∀ b ∈ frs X.stack, b ∈ X.env.locals :: X.fs := fun b hb => by
  rcases I.ok.stk with e | ⟨e, hf⟩
  · rw [e] at hb; exact List.mem_cons_of_mem _ hb
  · rw [e] at hb
    unfold frs at hb
    rw [List.filterMap_cons, hf] at hb
    exact hb
theorem Inv.stkFree (I : Inv X pins σ H s) : ∀ b ∈ frs X.stack, H b = none := fun b hb => by
  rcases List.mem_cons.mp (I.stkSub b hb) with e | hb
  · rw [e]; exact I.free
  · obtain ⟨_, o, ho, _⟩ := I.ok.funs.mem hb
    exact I.base.free b o ho (I.ok.frf b hb) fun z => I.ok.exfs b z hb

/-- THE STEP: the untracked objects but the frame and the records at ch are kept (the callers' frames up to slots), the frame's map is kept, the new abstract heap is held -/
theorem Inv.step {g' : Array GenState} {t' : Nat} {d' : Drawn} {ch : List Addr} (I : Inv X pins σ H s)
    (hch : ∀ b ∈ ch, (b ∈ X.ex ∨ X.s₀.heap.objs.size ≤ b) ∧ b ≠ X.env.locals ∧ (∀ x c, X.env.cells.lookup x = some c → c ≠ b) ∧ ∀ p ∈ X.pn ++ pins, p.1 ≠ b)
    (keep : ∀ b o, b ≠ X.env.locals → b ∉ X.fs → b ∉ ch → s.heap.get? b = some o → H b = none → h'.get? b = some o)
    (slot : ∀ b o, b ≠ X.env.locals → b ∈ X.fs → b ∉ ch → s.heap.get? b = some o → H b = none → ∃ sl, h'.get? b = some { o with slots := sl }) (free : ∀ b o, b ∉ ch → s.heap.get? b = some o → H b = none → H' b = none)
    (there : ∀ b o, b ∉ ch → s.heap.get? b = some o → ∃ o', h'.get? b = some o')
    (tups : ∀ b xs, H b = some (.tup xs) → H' b = some (.tup xs)) (frzs : ∀ b o u, H b = some (.frz o u) → H' b = some (.frz o u)) (tbls : ∀ b ps, H b = some (.tbl ps) → ∃ more, H' b = some (.tbl (ps ++ more)))
    (ns : ∀ m, s.heap.Ns X.env.locals m → h'.Ns X.env.locals m) (hok : HOk X.prog X.w H' h') (hg : AllBare g') :
    Inv X pins σ H' { s with heap := h', gens := g', drawn := d', toks := t' } := by
  have neL : ∀ b o, X.s₀.heap.get? b = some o → b ≠ X.env.locals := fun b o e => Nat.ne_of_lt (Nat.lt_of_lt_of_le (Heap.lt_size e) I.ok.above)
  have neC : ∀ b o, X.s₀.heap.get? b = some o → b ∉ X.ex → b ∉ ch := fun b o e hx hb => by
    rcases (hch b hb).1 with z | z
    · exact hx z
    · exact absurd (Nat.lt_of_lt_of_le (Heap.lt_size e) z) (Nat.lt_irrefl _)
  have cellK : ∀ x c, X.env.cells.lookup x = some c → ∀ v, s.heap.IsCell c v → h'.IsCell c v := fun x c e v ⟨o, ho, hd⟩ => by
    have nch : c ∉ ch := fun z => (hch c z).2.2.1 x c e rfl
    by_cases hc : c ∈ X.fs
    · obtain ⟨sl, q⟩ := slot c o (I.cne x c e) hc nch ho (I.freeC x c e)
      exact ⟨_, q, hd⟩
    · exact ⟨o, keep c o (I.cne x c e) hc nch ho (I.freeC x c e), hd⟩
  refine ⟨I.ok, I.os, hg, ⟨fun b o e n hb hx => ?_, fun b o e n hb hx => ?_, fun b o e n hx => ?_, fun b o e hx => ?_, fun b xs e => tups b xs (I.base.tups b xs e), fun b o xs e => frzs b o xs (I.base.frzs b o xs e), fun b ps e => ?_⟩, ?_, fun x c e => ?_, ?_, fun x c e => ?_, fun p hp => ?_, hok, I.len⟩
  · exact keep b o (neL b o e) hb (neC b o e hx) (I.base.keep b o e n hb hx) (I.base.free b o e n hx)
  · obtain ⟨sl, e1⟩ := I.base.slot b o e n hb hx
    obtain ⟨sl', e2⟩ := slot b _ (neL b o e) hb (neC b o e hx) e1 (I.base.free b o e n hx)
    exact ⟨sl', e2⟩
  · obtain ⟨o', e1⟩ := I.base.there b o e hx
    exact free b o' (neC b o e hx) e1 (I.base.free b o e n hx)
  · obtain ⟨o', e1⟩ := I.base.there b o e hx
    exact there b o' (neC b o e hx) e1
  · obtain ⟨m1, e1⟩ := I.base.tbls b ps e
    obtain ⟨m2, e2⟩ := tbls b _ e1
    exact ⟨m1 ++ m2, by rw [e2, Array.append_assoc]⟩
  · obtain ⟨m, hn, hl⟩ := I.loc
    refine ⟨m, ns m hn, fun i x v e1 e2 e3 => ?_⟩
    obtain ⟨u, r, l⟩ := hl i x v e1 e2 e3
    refine ⟨u, r, ?_⟩
    rcases l with l | ⟨k, c, e, z⟩
    · exact .inl l
    · exact .inr ⟨k, c, e, cellK x c e _ z⟩
  · obtain ⟨v, z⟩ := I.cell x c e
    exact ⟨v, cellK x c e v z⟩
  · obtain ⟨m, ⟨o, _, _, ho, _⟩, _⟩ := I.loc
    exact free _ o (fun z => (hch _ z).2.1 rfl) ho I.free
  · obtain ⟨v, o, ho, hd⟩ := I.cell x c e
    exact free c o (fun z => (hch c z).2.2.1 x c e rfl) ho (I.freeC x c e)
  · obtain ⟨e, n, ne, nf, d⟩ := I.pin p hp
    have nch : p.1 ∉ ch := fun z => (hch p.1 z).2.2.2 p hp rfl
    exact ⟨keep p.1 p.2 ne nf nch e n, free p.1 p.2 nch e n, ne, nf, d⟩
/-- .. where the frame's own object is kept too -/
theorem Inv.un {t' : Nat} (I : Inv X pins σ H s) (u : Un X.fs [] H H' s.heap h') (hok : HOk X.prog X.w H' h') : Inv X pins σ H' { s with heap := h', toks := t' } := by
  obtain ⟨m, ⟨o, es, ep, ho, r⟩, _⟩ := id I.loc
  obtain ⟨sl, hL⟩ := u.any ho I.free (by simp)
  exact I.step (g' := s.gens) (d' := s.drawn) (ch := []) (fun _ z => nomatch z) (fun b o _ hb _ e n => u.keep b o e n hb (by simp)) (fun b o _ hb _ e n => u.slot b o e n hb (by simp)) (fun b o _ e n => u.free b o e n (by simp)) (fun b o _ e => u.there b o e (by simp)) u.tups u.frzs u.tbls (fun m' hm => by
    obtain ⟨o', es', ep', ho', r'⟩ := hm
    rw [ho] at ho'; cases ho'
    exact ⟨_, es', ep', hL, r'⟩) hok I.bare
/-- behind a call (or a comprehension's block): the slots of this frame may have changed too, the records at ch may have turned -/
theorem Inv.call {g' : Array GenState} {t' : Nat} {d' : Drawn} {ch : List Addr} (I : Inv X pins σ H s) (u : Un (frs X.stack) ch H H' s.heap h') (hok : HOk X.prog X.w H' h') (hg : AllBare g')
    (hch : ∀ b ∈ ch, (b ∈ X.ex ∨ X.s₀.heap.objs.size ≤ b) ∧ b ≠ X.env.locals ∧ (∀ x c, X.env.cells.lookup x = some c → c ≠ b) ∧ ∀ p ∈ X.pn ++ pins, p.1 ≠ b) :
    Inv X pins σ H' { s with heap := h', gens := g', drawn := d', toks := t' } := by
  obtain ⟨m, ⟨o, es, ep, ho, r⟩, _⟩ := id I.loc
  obtain ⟨sl, hL⟩ := u.any ho I.free fun z => (hch _ z).2.1 rfl
  exact I.step (ch := ch) hch (fun b o hL hb hc e n => u.keep b o e n (fun z => (List.mem_cons.mp (I.stkSub b z)).elim hL hb) hc) (fun b o _ _ hc e n => u.any e n hc) (fun b o hc e n => u.free b o e n hc) (fun b o hc e => u.there b o e hc) u.tups u.frzs u.tbls (fun m' hm => by
    obtain ⟨o', es', ep', ho', r'⟩ := hm
    rw [ho] at ho'; cases ho'
    exact ⟨_, es', ep', hL, r'⟩) hok hg
/-- an untracked record of ours (an iterator) has turned -/
theorem Inv.turned {t' : Nat} {it : Addr} (I : Inv X pins σ H s) (k : ∀ b o, b ≠ it → s.heap.get? b = some o → h'.get? b = some o) (hn : H it = none) (hL : it ≠ X.env.locals)
    (h1 : it ∈ X.ex ∨ X.s₀.heap.objs.size ≤ it) (h2 : ∀ x c, X.env.cells.lookup x = some c → c ≠ it) (h3 : ∀ p ∈ X.pn ++ pins, p.1 ≠ it) : Inv X pins σ H { s with heap := h', toks := t' } := by
  have nit : ∀ b u, H b = some u → b ≠ it := fun b u e z => by rw [z, hn] at e; cases e
  refine I.step (g' := s.gens) (d' := s.drawn) (ch := [it]) (fun b hb => ?_) (fun b o _ _ hc e _ => k b o (fun z => hc (by simp [z])) e) (fun b o _ _ hc e _ => ⟨o.slots, k b o (fun z => hc (by simp [z])) e⟩) (fun _ _ _ _ n => n)
    (fun b o hc e => ⟨o, k b o (fun z => hc (by simp [z])) e⟩) (fun _ _ e => e) (fun _ _ _ e => e) (fun b ps e => ⟨#[], by rw [e]; simp⟩) (fun m hm => ?_) (fun b u e => ?_) I.bare
  · have e : b = it := by simpa using hb
    subst e
    exact ⟨h1, hL, h2, h3⟩
  · obtain ⟨o, es, ep, ho, r⟩ := hm
    exact ⟨o, es, ep, k _ o (Ne.symm hL) ho, r⟩
  · refine (I.hok b u e).stay (fun c v hc q => k c v ?_ q) (fun _ q => q) fun _ _ q => q
    rcases hc with z | z
    · rw [z]; exact nit b u e
    · exact nit c _ z
theorem Inv.tok (I : Inv X pins σ H s) (t : Nat) : Inv X pins σ H { s with toks := t } := I.un (h' := s.heap) (t' := t) Un.refl I.hok
/-- all objects kept -/
theorem Inv.kept {t' : Nat} (I : Inv X pins σ H s) (k : ∀ b u, s.heap.get? b = some u → h'.get? b = some u) : Inv X pins σ H { s with heap := h', toks := t' } := I.un (Un.kept k) (I.hok.kept k)
/-- a new object laid and tracked -/
theorem Inv.laid {a : Addr} {o : HO} {t' : Nat} (I : Inv X pins σ H s) (k : ∀ b u, s.heap.get? b = some u → h'.get? b = some u) (hp : s.heap.objs.size ≤ a) (new : ObjOk X.prog X.w (upd H a o) h' a o) :
    Inv X pins σ (upd H a o) { s with heap := h', toks := t' } := I.un (Un.laid k hp (I.hok.fresh hp)) (I.hok.laid k hp new)
/-- an object written -/
theorem Inv.write {x e : Addr} {o : HO} {t' : Nat} (I : Inv X pins σ H s) (mu : Mut (H x)) (he : e = x ∨ H e = some (.own x)) (k : ∀ b u, b ≠ e → s.heap.get? b = some u → h'.get? b = some u) (heo : ∃ u, h'.get? e = some u)
    (new : ObjOk X.prog X.w (upd H x o) h' x o) : Inv X pins σ (upd H x o) { s with heap := h', toks := t' } := I.un (Un.write mu he k heo) (I.hok.write mu he k heo new)
/-- forgetting slots, pins -/
theorem Inv.weak {σ' : List (Option V)} (I : Inv X pins σ H s) (hl : σ'.length = σ.length) (w : ∀ (i : Nat) v, σ'[i]? = some (some v) → σ[i]? = some (some v)) : Inv X pins σ' H s :=
  ⟨I.ok, I.os, I.bare, I.base, let ⟨m, hn, hl'⟩ := I.loc; ⟨m, hn, fun i x v e1 e2 e3 => hl' i x v e1 (w i v e2) e3⟩, I.cell, I.free, I.freeC, I.pin, I.hok, hl.trans I.len⟩
theorem Inv.pins_of {pins' : List (Addr × Obj)} (I : Inv X pins σ H s) (h : ∀ p ∈ pins', s.heap.get? p.1 = some p.2 ∧ H p.1 = none ∧ p.1 ≠ X.env.locals ∧ p.1 ∉ X.fs ∧ ∀ v, p.2.data ≠ .cell v) : Inv X pins' σ H s :=
  ⟨I.ok, I.os, I.bare, I.base, I.loc, I.cell, I.free, I.freeC, fun p hp => (List.mem_append.mp hp).elim (fun z => I.pin p (List.mem_append_left _ z)) (h p), I.hok, I.len⟩

theorem nodup_ix {N : List Str} (hN : N.Nodup) {i j : Nat} {x : Str} (a : N[i]? = some x) (b : N[j]? = some x) : i = j := by
  obtain ⟨h1, e1⟩ := List.getElem?_eq_some_iff.mp a
  obtain ⟨h2, e2⟩ := List.getElem?_eq_some_iff.mp b
  exact (List.getElem_inj hN).mp (e1.trans e2.symm)

/-- a name is stored; what changed -/
theorem store_ok2 {M : Model} {A : Around} {E : Value → Shared → Prop} {i : Nat} {x : Str} {v : V} {u : Value} {Q : Unit → Shared → Prop} (I : Inv X pins σ H s) (hN : X.N.Nodup) (hi : X.N[i]? = some x) (hx : Loc X.env.scope x) (r : RelV v u)
    (h : ∀ s', Inv X pins (σ.set i (some v)) H s' → (∃ a, Heap.SameBut a s.heap s'.heap ∧ (a = X.env.locals ∨ X.env.cells.lookup x = some a)) → Q () s') (hf : X.fn x = true ∨ X.env.scope.names.lookup x = some .local := by first | exact .inl rfl | exact .inr rfl | assumption) : wpAny M A (storeName X.env x u) Q E s := by
  obtain ⟨m, hn, hl⟩ := id I.loc
  have hcls : (X.env.scope.kind == .class || (X.env.scope.kind == .module && X.env.locals != X.env.globals)) = false := by rw [I.ok.kind]; rfl
  have hiσ : i < σ.length := by rw [I.len]; exact (List.getElem?_eq_some_iff.mp hi).1
  have cne := I.cne
  have tracked : ∀ {a : Addr} {h' : Heap}, (∃ o, s.heap.get? a = some o ∧ H a = none) → Heap.SameBut a s.heap h' → HOk X.prog X.w H h' := fun {a h'} ha hs b ob e => by
    obtain ⟨_, _, hfree⟩ := ha
    refine (I.hok b ob e).stay (fun c w' hc q => (hs.2 c ?_).trans q) (fun _ q => q) fun _ _ q => q
    rintro rfl
    rcases hc with rfl | hc
    · rw [hfree] at e; cases e
    · rw [hfree] at hc; cases hc
  rcases hx with hk | hk
  · refine wpAny_storeName_local hk hn (fun h' hn' hs => ?_) hcls
    obtain ⟨oL, _, _, hoL, _⟩ := id hn
    refine h _ ⟨I.ok, I.os, I.bare, ⟨fun b o e n hb hx => ?_, fun b o e n hb hx => ?_, I.base.free, fun b o e hx => ?_, I.base.tups, I.base.frzs, I.base.tbls⟩, ⟨_, hn', fun j y v' e1 e2 e3 => ?_⟩, fun y c e => ?_, I.free, I.freeC, fun p hp => ?_, tracked ⟨oL, hoL, I.free⟩ hs, by simpa using I.len⟩ ⟨_, hs, .inl rfl⟩
    · exact (hs.2 b (Nat.ne_of_lt (Nat.lt_of_lt_of_le (Heap.lt_size e) I.ok.above))).trans (I.base.keep b o e n hb hx)
    · obtain ⟨sl, e1⟩ := I.base.slot b o e n hb hx
      exact ⟨sl, (hs.2 b (Nat.ne_of_lt (Nat.lt_of_lt_of_le (Heap.lt_size e) I.ok.above))).trans e1⟩
    · obtain ⟨o', e1⟩ := I.base.there b o e hx
      exact ⟨o', (hs.2 b (Nat.ne_of_lt (Nat.lt_of_lt_of_le (Heap.lt_size e) I.ok.above))).trans e1⟩
    · by_cases hj : j = i
      · subst hj
        rw [hi] at e1; cases e1
        rw [List.getElem?_set_self hiσ] at e2
        cases e2
        exact ⟨u, r, .inl ⟨hk, by simp⟩⟩
      · rw [List.getElem?_set_ne (Ne.symm hj)] at e2
        obtain ⟨u', r', q⟩ := hl j y v' e1 e2 e3
        refine ⟨u', r', ?_⟩
        rcases q with ⟨k, e⟩ | ⟨k, c, e, z⟩
        · refine .inl ⟨k, ?_⟩
          have : y ≠ x := fun e => hj (nodup_ix hN e1 (e ▸ hi))
          simp [this, e]
        · exact .inr ⟨k, c, e, z.sameBut hs (cne y c e)⟩
    · obtain ⟨w', z⟩ := I.cell y c e
      exact ⟨w', z.sameBut hs (cne y c e)⟩
    · obtain ⟨e, n, ne, nf, d⟩ := I.pin p hp
      exact ⟨(hs.2 p.1 ne).trans e, n, ne, nf, d⟩
  · have hfn : X.fn x = true := by
      rcases hf with z | z
      · exact z
      · rw [z] at hk; cases hk
    obtain ⟨c, hc⟩ := I.ok.has x (.inl hk)
    obtain ⟨w', z⟩ := I.cell x c hc
    refine wpAny_storeName_cell I.ok.kind hk hc z (fun h' hc' hs => ?_)
    obtain ⟨oc, hoc, hocd⟩ := id z
    refine h { s with heap := h' } ⟨I.ok, I.os, I.bare, ⟨fun b o e n hb hx => ?_, fun b o e n hb hx => ?_, I.base.free, fun b o e hx => ?_, I.base.tups, I.base.frzs, I.base.tbls⟩, ⟨m, hn.sameBut hs (Ne.symm (cne x c hc)), fun j y v' e1 e2 e3 => ?_⟩, fun y c' e => ?_, I.free, I.freeC, fun p hp => ?_, tracked ⟨oc, hoc, I.freeC x c hc⟩ hs, by simpa using I.len⟩ ⟨c, hs, .inr hc⟩
    · exact (hs.2 b (Nat.ne_of_lt (Nat.lt_of_lt_of_le (Heap.lt_size e) (I.ok.cab x c hfn hc)))).trans (I.base.keep b o e n hb hx)
    · obtain ⟨sl, e1⟩ := I.base.slot b o e n hb hx
      exact ⟨sl, (hs.2 b (Nat.ne_of_lt (Nat.lt_of_lt_of_le (Heap.lt_size e) (I.ok.cab x c hfn hc)))).trans e1⟩
    · obtain ⟨o', e1⟩ := I.base.there b o e hx
      exact ⟨o', (hs.2 b (Nat.ne_of_lt (Nat.lt_of_lt_of_le (Heap.lt_size e) (I.ok.cab x c hfn hc)))).trans e1⟩
    · by_cases hj : j = i
      · subst hj
        rw [hi] at e1; cases e1
        rw [List.getElem?_set_self hiσ] at e2
        cases e2
        exact ⟨u, r, .inr ⟨.inl hk, c, hc, hc'⟩⟩
      · rw [List.getElem?_set_ne (Ne.symm hj)] at e2
        obtain ⟨u', r', q⟩ := hl j y v' e1 e2 e3
        refine ⟨u', r', ?_⟩
        rcases q with q | ⟨k, c', e, z'⟩
        · exact .inl q
        · refine .inr ⟨k, c', e, z'.sameBut hs ?_⟩
          rintro rfl
          exact hj (nodup_ix hN e1 (I.ok.inj _ _ _ e hc ▸ hi))
    · by_cases hcc : c' = c
      · subst hcc; exact ⟨_, hc'⟩
      · obtain ⟨w2, z2⟩ := I.cell y c' e
        exact ⟨w2, z2.sameBut hs hcc⟩
    · obtain ⟨e, n, ne, nf, d⟩ := I.pin p hp
      refine ⟨(hs.2 p.1 ?_).trans e, n, ne, nf, d⟩
      intro q
      rw [q, hoc] at e
      have q' : oc = p.2 := Option.some.inj e
      exact d w' (by rw [← q']; exact hocd)
theorem store_ok {M : Model} {A : Around} {E : Value → Shared → Prop} {i : Nat} {x : Str} {v : V} {u : Value} {Q : Unit → Shared → Prop} (I : Inv X pins σ H s) (hN : X.N.Nodup) (hi : X.N[i]? = some x) (hx : Loc X.env.scope x) (r : RelV v u)
    (h : ∀ s', Inv X pins (σ.set i (some v)) H s' → Q () s') (hf : X.fn x = true ∨ X.env.scope.names.lookup x = some .local := by first | exact .inl rfl | exact .inr rfl | assumption) : wpAny M A (storeName X.env x u) Q E s :=
  store_ok2 I hN hi hx r (fun s' I' _ => h s' I') hf
/-- behind a call or a block, the state as it is -/
theorem Inv.call' {s' : Shared} {ch : List Addr} (I : Inv X pins σ H s) (ho : s'.os = s.os) (u : Un (frs X.stack) ch H H' s.heap s'.heap) (hok : HOk X.prog X.w H' s'.heap) (hg : AllBare s'.gens)
    (hch : ∀ b ∈ ch, (b ∈ X.ex ∨ X.s₀.heap.objs.size ≤ b) ∧ b ≠ X.env.locals ∧ (∀ x c, X.env.cells.lookup x = some c → c ≠ b) ∧ ∀ p ∈ X.pn ++ pins, p.1 ≠ b) : Inv X pins σ H' s' := by
  obtain ⟨h', g', d', t', o'⟩ := s'
  have e : o' = s.os := ho
  subst e
  exact I.call (g' := g') (t' := t') (d' := d') u hok hg hch
end

/-! ### the judgements -/
/-- an exception: its class, its own dict's address (where it has one), the abstract heap behind it -/
abbrev XK := Value → Option Addr → Hp → Prop
abbrev St := List (Option V)
abbrev VK := V → Hp → Prop
/-- an expression's reading; a test's; an argument list's -/
abbrev TE := St → Hp → VK → Prop
abbrev TT := St → Hp → (Bool → Hp → Prop) → Prop
abbrev TA := St → Hp → (List V → Hp → Prop) → Prop
/-- what is wanted behind a statement -/
structure Ends where
  nx : St → Hp → Prop
  rt : VK
  bk : St → Hp → Prop := fun _ _ => False
  ct : St → Hp → Prop := fun _ _ => False
abbrev TS := Ends → St → Hp → Prop

def EP (X : Cx) (pins : List (Addr × Obj)) (σ : St) (Q : VK) (u : Value) (s' : Shared) : Prop := ∃ v H', Inv X pins σ H' s' ∧ RelV v u ∧ Q v H'
def TP (X : Cx) (pins : List (Addr × Obj)) (σ : St) (Q : Bool → Hp → Prop) (b : Bool) (s' : Shared) : Prop := ∃ H', Inv X pins σ H' s' ∧ Q b H'
def AP (X : Cx) (pins : List (Addr × Obj)) (σ : St) (Q : List V → Hp → Prop) (us : List Value) (s' : Shared) : Prop := ∃ vs H', Inv X pins σ H' s' ∧ Vals vs us ∧ Q vs H'
def SP (X : Cx) (pins : List (Addr × Obj)) (D : Ends) (f : Flow) (s' : Shared) : Prop :=
  match f with
  | .next => ∃ σ' H', Inv X pins σ' H' s' ∧ D.nx σ' H'
  | .brk => ∃ σ' H', Inv X pins σ' H' s' ∧ D.bk σ' H'
  | .cont => ∃ σ' H', Inv X pins σ' H' s' ∧ D.ct σ' H'
  | .ret u => ∃ v σ' H', Inv X pins σ' H' s' ∧ RelV v u ∧ D.rt v H'

def PE (X : Cx) (e : Expr) (t : TE) : Prop :=
  ∀ (pins : List (Addr × Obj)) (s : Shared) (σ : St) (H : Hp) (Q : VK), Inv X pins σ H s → t σ H Q → wpAny (model X.prog X.w) X.A (eval e X.env) (EP X pins σ Q) X.xe s
def PT (X : Cx) (e : Expr) (t : TT) : Prop :=
  ∀ (pins : List (Addr × Obj)) (s : Shared) (σ : St) (H : Hp) (Q : Bool → Hp → Prop), Inv X pins σ H s → t σ H Q → wpAny (model X.prog X.w) X.A (isTrue e X.env (eval e X.env)) (TP X pins σ Q) X.xe s
/-- a test whatever its 'whole' is (and, or) -/
def PW (X : Cx) (e : Expr) (t : TT) : Prop :=
  ∀ (whole : Sem Value) (pins : List (Addr × Obj)) (s : Shared) (σ : St) (H : Hp) (Q : Bool → Hp → Prop), Inv X pins σ H s → t σ H Q → wpAny (model X.prog X.w) X.A (isTrue e X.env whole) (TP X pins σ Q) X.xe s
theorem PW.pt {X : Cx} {e : Expr} {t : TT} (h : PW X e t) : PT X e t := h _
/-- an argument list (no star), from the left -/
def PA (X : Cx) (es : List Expr) (t : TA) : Prop :=
  ∀ (pos : Pos) (pins : List (Addr × Obj)) (s : Shared) (σ : St) (H : Hp) (Q : List V → Hp → Prop), Inv X pins σ H s → t σ H Q → wpAny (model X.prog X.w) X.A (spliced (backTo pos (starEach es X.env))) (AP X pins σ Q) X.xe s
def PS (X : Cx) (st : Stmt) (t : TS) : Prop :=
  ∀ (pins : List (Addr × Obj)) (s : Shared) (σ : St) (H : Hp) (D : Ends), Inv X pins σ H s → t D σ H → wpAny (model X.prog X.w) X.A (exec st X.env) (SP X pins D) X.xe s
def PSs (X : Cx) (st : List Stmt) (t : TS) : Prop :=
  ∀ (pins : List (Addr × Obj)) (s : Shared) (σ : St) (H : Hp) (D : Ends), Inv X pins σ H s → t D σ H → wpAny (model X.prog X.w) X.A (execs st X.env) (SP X pins D) X.xe s
/-- weaken the end -/
theorem thn {α : Type} {t : Sem α} {Q Q' : α → Shared → Prop} {M : Model} {A : Around} {E : Value → Shared → Prop} {s : Shared} (h : wpAny M A t Q E s) (hQ : ∀ a s, Q a s → Q' a s) : wpAny M A t Q' E s := wpAny_mono h hQ fun _ _ x => x
end L2

namespace L2
open PySem PySem.Spec PyProof.Rows
section
variable {X : Cx}

/-- two expressions in a row -/
theorem bin {a b : Expr} {ta tb : TE} (ha : PE X a ta) (hb : PE X b tb) {pins : List (Addr × Obj)} {s : Shared} {σ : St} {H : Hp} {R : V → V → Hp → Prop} (I : Inv X pins σ H s) (h : ta σ H fun x H1 => tb σ H1 fun y H2 => R x y H2)
    {α : Type} {Q : α → Shared → Prop} {f : Value → Value → Sem α}
    (hf : ∀ v u s2 x y H2, Inv X pins σ H2 s2 → RelV x v → RelV y u → R x y H2 → wpAny (model X.prog X.w) X.A (f v u) Q X.xe s2) :
    wpAny (model X.prog X.w) X.A (eval a X.env) (fun v s₁ => wpAny (model X.prog X.w) X.A (eval b X.env) (fun u s₂ => wpAny (model X.prog X.w) X.A (f v u) Q X.xe s₂) X.xe s₁) X.xe s := by
  refine thn (ha pins s σ H _ I h) fun v s1 ⟨x, H1, I1, r1, q1⟩ => ?_
  refine thn (hb pins s1 σ H1 _ I1 q1) fun u s2 ⟨y, H2, I2, r2, q2⟩ => ?_
  exact hf v u s2 x y H2 I2 r1 r2 q2

/-! ### names and constants -/
def tVar (i : Nat) : TE := fun σ H Q => ∃ v, σ[i]? = some (some v) ∧ Q v H
def tC (v : V) : TE := fun _ H Q => Q v H
theorem pe_var {i : Nat} {x : Str} {pos : Pos} (hN : X.N[i]? = some x) (hv : Vis X.env.scope x) (hd : (x == ("__debug__" : Str)) = false := by decide) (hcd : (x == ("__classdict__" : Str)) = false := by decide) : PE X (.Name x pos) (tVar i) := by
  intro pins s σ H Q I h
  obtain ⟨v, e, h⟩ := h
  obtain ⟨m, hn, hl⟩ := I.loc
  obtain ⟨u, r, l⟩ := hl i x v hN e hv
  have fin : EP X pins σ Q u s := ⟨v, H, I, r, h⟩
  rcases l with ⟨hk, hm⟩ | ⟨hk, c, hc, hcell⟩
  · exact wpAny_Name (wpAny_loadName_local I.ok.kind hk hn hm fin) hd
  · rcases hk with hk | hk
    · exact wpAny_Name (wpAny_loadName_cell I.ok.kind hk hc hcell fin) hd
    · exact wpAny_Name (wpAny_loadName_free I.ok.kind hk hc hcell fin hcd) hd
theorem pe_int {i j pos} : PE X (.Constant (.int i) j pos) (tC (.int i)) := fun _ _ _ H _ I h => wpAny_Constant_int ⟨.int i, H, I.tok _, ⟨_, rfl⟩, h⟩
theorem pe_bl {b j pos} : PE X (.Constant (.bool b) j pos) (tC (.bl b)) := fun _ _ _ H _ I h => Constant_bool ⟨.bl b, H, I, rfl, h⟩
theorem pe_non {j pos} : PE X (.Constant .none j pos) (tC .non) := fun _ _ _ H _ I h => Constant_none ⟨.non, H, I, rfl, h⟩
theorem pe_str {x j pos} : PE X (.Constant (.str x) j pos) (tC (.str x)) := fun _ _ _ H _ I h => Calls.Constant_str ⟨.str x, H, I.tok _, ⟨_, rfl⟩, h⟩

/-- a global name of the def -/
def Gl (X : Cx) (x : Str) : Prop := X.env.kindOf x = some .globalImplicit
theorem ld_glob {E : Value → Shared → Prop} {pins : List (Addr × Obj)} {s : Shared} {σ : St} {H : Hp} {x : Str} {u : Value} {pos : Pos} {Q : Value → Shared → Prop} (I : Inv X pins σ H s) (hg : Gl X x) (hm : X.mg x = some u) (h : Q u s)
    (hd : (x == ("__debug__" : Str)) = false := by decide) : wpAny (model X.prog X.w) X.A (eval (.Name x pos) X.env) Q E s :=
  Calls.Name_function_global I.ok.kind hg (Calls.loadGlobal_global (by rw [I.ok.glob]; exact I.mod.glob.keeps I.bk) hm h) hd
theorem ld_blt {E : Value → Shared → Prop} {pins : List (Addr × Obj)} {s : Shared} {σ : St} {H : Hp} {x : Str} {u : Value} {pos : Pos} {Q : Value → Shared → Prop} (I : Inv X pins σ H s) (hg : Gl X x) (hm : X.mg x = none) (hv : bootBuiltins x = some u) (h : Q u s)
    (hn : x ≠ "__name__" := by decide) (hd : (x == ("__debug__" : Str)) = false := by decide) : wpAny (model X.prog X.w) X.A (eval (.Name x pos) X.env) Q E s := by
  obtain ⟨mb, h1, h2⟩ := I.mod.blt
  exact Calls.Name_function_global I.ok.kind hg (Calls.loadGlobal_builtin (by rw [I.ok.glob]; exact I.mod.glob.keeps I.bk) hm (by rw [I.ok.blt]; exact h1.keeps I.bk) ((h2 x hn).trans hv) h) hd
/-- a module's constant, a class, a function, as a value -/
theorem pe_glob {x : Str} {v : V} {u : Value} {pos : Pos} (hg : Gl X x) (hm : X.mg x = some u) (r : RelV v u) (hd : (x == ("__debug__" : Str)) = false := by decide) : PE X (.Name x pos) (tC v) :=
  fun _ _ _ H _ I h => ld_glob I hg hm ⟨v, H, I, r, h⟩ hd
theorem pe_bltn {x : Str} {v : V} {u : Value} {pos : Pos} (hg : Gl X x) (hm : X.mg x = none) (hv : bootBuiltins x = some u) (r : RelV v u) (hn : x ≠ "__name__" := by decide) (hd : (x == ("__debug__" : Str)) = false := by decide) : PE X (.Name x pos) (tC v) :=
  fun _ _ _ H _ I h => ld_blt I hg hm hv ⟨v, H, I, r, h⟩ hn hd

/-! ### arithmetic -/
/-- two ints -/
def t2I (ta tb : TE) (k : Int → Int → Hp → Prop) : St → Hp → Prop := fun σ H => ta σ H fun x H1 => tb σ H1 fun y H2 => ∃ i j, x = .int i ∧ y = .int j ∧ k i j H2
def tAdd (ta tb : TE) : TE := fun σ H Q => t2I ta tb (fun i j H2 => Q (.int (i + j)) H2) σ H
def tSub (ta tb : TE) : TE := fun σ H Q => t2I ta tb (fun i j H2 => Q (.int (i - j)) H2) σ H
/-- the left factor below 2^64 -/
def tMul (ta tb : TE) : TE := fun σ H Q => t2I ta tb (fun i j H2 => (-(2 ^ 64) < i ∧ i < 2 ^ 64) ∧ Q (.int (i * j)) H2) σ H
variable {a b : Expr} {ta tb : TE} {pos : Pos}
theorem pe_add (ha : PE X a ta) (hb : PE X b tb) : PE X (.BinOp a .Add b pos) (tAdd ta tb) := by
  intro pins s σ H Q I h
  refine wpAny_BinOp (bin ha hb I h fun v u s2 x y H2 I2 rx ry q => ?_)
  obtain ⟨i, j, rfl, rfl, q⟩ := q
  obtain ⟨t, rfl⟩ := rx
  obtain ⟨t', rfl⟩ := ry
  exact add_int ⟨.int _, H2, I2.tok _, ⟨_, rfl⟩, q⟩
theorem pe_sub (ha : PE X a ta) (hb : PE X b tb) : PE X (.BinOp a .Sub b pos) (tSub ta tb) := by
  intro pins s σ H Q I h
  refine wpAny_BinOp (bin ha hb I h fun v u s2 x y H2 I2 rx ry q => ?_)
  obtain ⟨i, j, rfl, rfl, q⟩ := q
  obtain ⟨t, rfl⟩ := rx
  obtain ⟨t', rfl⟩ := ry
  exact sub_int ⟨.int _, H2, I2.tok _, ⟨_, rfl⟩, q⟩
theorem pe_mul (ha : PE X a ta) (hb : PE X b tb) : PE X (.BinOp a .Mult b pos) (tMul ta tb) := by
  intro pins s σ H Q I h
  refine wpAny_BinOp (bin ha hb I h fun v u s2 x y H2 I2 rx ry q => ?_)
  obtain ⟨i, j, rfl, rfl, ⟨q1, q2⟩, q⟩ := q
  obtain ⟨t, rfl⟩ := rx
  obtain ⟨t', rfl⟩ := ry
  exact mul_int ⟨.int _, H2, I2.tok _, ⟨_, rfl⟩, q⟩ (.of_left (intBits_le_64 q1 q2))

/-! ### comparisons -/
def PC (X : Cx) (op : CmpOp) (a b : Expr) (t : TE) : Prop :=
  ∀ (pins : List (Addr × Obj)) (s : Shared) (σ : St) (H : Hp) (Q : VK), Inv X pins σ H s → t σ H Q →
    wpAny (model X.prog X.w) X.A (eval a X.env) (fun v s₁ => wpAny (model X.prog X.w) X.A (eval b X.env) (fun u s₂ => wpAny (model X.prog X.w) X.A (compareOp op v u) (EP X pins σ Q) X.xe s₂) X.xe s₁) X.xe s
theorem nobehind (b : Expr) {op : CmpOp} (h : op ≠ .In) (h2 : op ≠ .NotIn) : behindInMarks op b = false := by
  have e1 : (op == CmpOp.In) = false := by cases op <;> first | rfl | exact absurd rfl h
  have e2 : (op == CmpOp.NotIn) = false := by cases op <;> first | rfl | exact absurd rfl h2
  cases b <;> simp [behindInMarks, e1, e2]
def tCmp (p : Int → Int → Bool) (ta tb : TE) : TE := fun σ H Q => t2I ta tb (fun i j H2 => Q (.bl (p i j)) H2) σ H
abbrev tLt : TE → TE → TE := tCmp fun i j => decide (i < j)
abbrev tLe : TE → TE → TE := tCmp fun i j => decide (i ≤ j)
abbrev tGt : TE → TE → TE := tCmp fun i j => decide (j < i)
abbrev tGe : TE → TE → TE := tCmp fun i j => decide (j ≤ i)
abbrev tEqI : TE → TE → TE := tCmp fun i j => decide (i = j)
abbrev tNeI : TE → TE → TE := tCmp fun i j => !decide (i = j)
/-- a comparison of two ints, by its rule -/
theorem pc_int {op : CmpOp} {p : Int → Int → Bool} (ha : PE X a ta) (hb : PE X b tb)
    (rule : ∀ (i j : Int) (t u : Tok) (Q : Value → Shared → Prop) (s : Shared), Q (.bool (p i j)) s → wpAny (model X.prog X.w) X.A (compareOp op (.int i t) (.int j u)) Q X.xe s) : PC X op a b (tCmp p ta tb) := by
  intro pins s σ H Q I h
  refine bin ha hb I h fun v u s2 x y H2 I2 rx ry q => ?_
  obtain ⟨i, j, rfl, rfl, q⟩ := q
  obtain ⟨t, rfl⟩ := rx
  obtain ⟨t', rfl⟩ := ry
  exact rule i j t t' _ s2 ⟨.bl _, H2, I2, rfl, q⟩
theorem pc_lt (ha : PE X a ta) (hb : PE X b tb) : PC X .Lt a b (tLt ta tb) := pc_int ha hb fun _ _ _ _ _ _ h => lt_int h
theorem pc_le (ha : PE X a ta) (hb : PE X b tb) : PC X .LtE a b (tLe ta tb) := pc_int ha hb fun _ _ _ _ _ _ h => le_int h
theorem pc_gt (ha : PE X a ta) (hb : PE X b tb) : PC X .Gt a b (tGt ta tb) := pc_int ha hb fun _ _ _ _ _ _ h => gt_int h
theorem pc_ge (ha : PE X a ta) (hb : PE X b tb) : PC X .GtE a b (tGe ta tb) := pc_int ha hb fun _ _ _ _ _ _ h => ge_int h
theorem pc_eqI (ha : PE X a ta) (hb : PE X b tb) : PC X .Eq a b (tEqI ta tb) := pc_int ha hb fun _ _ _ _ _ _ h => eq_int (by rw [Bool.beq_eq_decide_eq]; exact h)
theorem pc_neI (ha : PE X a ta) (hb : PE X b tb) : PC X .NotEq a b (tNeI ta tb) := pc_int ha hb fun _ _ _ _ _ _ h => ne_int (by rw [bne, Bool.beq_eq_decide_eq]; exact h)
/-- is None -/
def tIsN (ta : TE) : TE := fun σ H Q => ta σ H fun x H1 => Q (.bl (decide (x = .non))) H1
def tNotN (ta : TE) : TE := fun σ H Q => ta σ H fun x H1 => Q (.bl (!decide (x = .non))) H1
theorem RelV.none_iff {x : V} {v : Value} (r : RelV x v) : (v == Value.none) = decide (x = .non) := by
  cases x with
  | non => cases r; rfl
  | bl _ => cases r; rfl
  | int _ => obtain ⟨t, rfl⟩ := r; rfl
  | str _ => obtain ⟨t, rfl⟩ := r; rfl
  | byt _ => obtain ⟨t, rfl⟩ := r; rfl
  | flt _ => obtain ⟨t, rfl⟩ := r; rfl
  | ref _ => cases r; rfl
  | ty _ => cases r; rfl
theorem pc_isN {j pos'} (ha : PE X a ta) : PC X .Is a (.Constant .none j pos') (tIsN ta) := by
  intro pins s σ H Q I h
  refine thn (ha pins s σ H _ I h) fun v s1 ⟨x, H1, I1, r1, q1⟩ => ?_
  exact Constant_none (is_none_gen ⟨.bl _, H1, I1, by rw [r1.none_iff]; rfl, q1⟩)
theorem pc_notN {j pos'} (ha : PE X a ta) : PC X .IsNot a (.Constant .none j pos') (tNotN ta) := by
  intro pins s σ H Q I h
  refine thn (ha pins s σ H _ I h) fun v s1 ⟨x, H1, I1, r1, q1⟩ => ?_
  exact Constant_none (isnot_none_gen ⟨.bl _, H1, I1, by rw [r1.none_iff]; rfl, q1⟩)
/-- a comparison as a value, as a test -/
def tB (t : TE) : TT := fun σ H Q => t σ H fun x H1 => ∃ c, x = .bl c ∧ Q c H1
theorem pe_cmp {op : CmpOp} {t : TE} (h : PC X op a b t) (h1 : behindInMarks op b = false := by first | exact nobehind _ (by decide) (by decide) | rfl) : PE X (.Compare a [op] [b] pos) t := fun pins s σ H Q I hw => wpAny_Compare1 (h pins s σ H Q I hw) h1
theorem pt_cmp {op : CmpOp} {t : TE} (h : PC X op a b t) (h1 : behindInMarks op b = false := by first | exact nobehind _ (by decide) (by decide) | rfl) : PT X (.Compare a [op] [b] pos) (tB t) := by
  intro pins s σ H Q I hw
  refine wpAny_isTrue_Compare1 (thn (h pins s σ H _ I hw) fun v s1 h1 => thn h1 fun u s2 h2 => thn h2 fun c s3 ⟨x, H1, I1, r1, q1⟩ => ?_) h1
  obtain ⟨d, rfl, q⟩ := q1
  cases r1
  exact wpAny_truthy_bool ⟨H1, I1, q⟩
/-- an expression whose value is a bool, as a test -/
theorem pt_val {e : Expr} {t : TE} (h : PE X e t) (he : ∀ whole, isTrue e X.env whole = (do let v ← whole; standAt e.pos; holding [v] (truthy v)) := by intro _; rfl) : PT X e (tB t) := by
  intro pins s σ H Q I hw
  refine isTrue_plain (thn (h pins s σ H _ I hw) fun v s1 ⟨x, H1, I1, r1, q1⟩ => ?_) (he _)
  obtain ⟨d, rfl, q⟩ := q1
  cases r1
  exact wpAny_truthy_bool ⟨H1, I1, q⟩

/-! ### and, or, not -/
variable {tA tB' : TT} {rest : List Expr}
def tAnd (t u : TT) : TT := fun σ H Q => t σ H fun c H1 => if c = true then u σ H1 Q else Q false H1
def tOr (t u : TT) : TT := fun σ H Q => t σ H fun c H1 => if c = true then Q true H1 else u σ H1 Q
def tNot (t : TT) : TT := fun σ H Q => t σ H fun c H1 => Q (!c) H1
theorem pw_and1 (ha : PT X a tA) : PW X (.BoolOp .And [a] pos) tA := by
  intro wh pins s σ H Q I h
  refine isTrue_and (thn (ha pins s σ H Q I h) fun c s1 e => ?_)
  cases c with
  | true => exact isTrue_and_nil e
  | false => exact e
theorem pw_or1 (ha : PT X a tA) : PW X (.BoolOp .Or [a] pos) tA := by
  intro wh pins s σ H Q I h
  refine isTrue_or (thn (ha pins s σ H Q I h) fun c s1 e => ?_)
  cases c with
  | false => exact isTrue_or_nil e
  | true => exact e
theorem pw_and (ha : PT X a tA) (hb : PW X (.BoolOp .And (b :: rest) pos) tB') : PW X (.BoolOp .And (a :: b :: rest) pos) (tAnd tA tB') := by
  intro wh pins s σ H Q I h
  refine isTrue_and (thn (ha pins s σ H _ I h) fun c s1 ⟨H1, I1, q1⟩ => ?_)
  cases c with
  | true => exact hb wh pins s1 σ H1 Q I1 q1
  | false => exact ⟨H1, I1, q1⟩
theorem pw_or (ha : PT X a tA) (hb : PW X (.BoolOp .Or (b :: rest) pos) tB') : PW X (.BoolOp .Or (a :: b :: rest) pos) (tOr tA tB') := by
  intro wh pins s σ H Q I h
  refine isTrue_or (thn (ha pins s σ H _ I h) fun c s1 ⟨H1, I1, q1⟩ => ?_)
  cases c with
  | true => exact ⟨H1, I1, q1⟩
  | false => exact hb wh pins s1 σ H1 Q I1 q1
theorem pt_not (ha : PT X a tA) : PT X (.UnaryOp .Not a pos) (tNot tA) := by
  intro pins s σ H Q I h
  exact isTrue_not (ha pins s σ H (fun c H1 => Q (!c) H1) I h)
/-- .. as values (bools) -/
def tAndV (ta tb : TE) : TE := fun σ H Q => ta σ H fun x H1 => ∃ c, x = .bl c ∧ if c = true then tb σ H1 Q else Q (.bl false) H1
def tOrV (ta tb : TE) : TE := fun σ H Q => ta σ H fun x H1 => ∃ c, x = .bl c ∧ if c = true then Q (.bl true) H1 else tb σ H1 Q
def tNotV (ta : TE) : TE := fun σ H Q => ta σ H fun x H1 => ∃ c, x = .bl c ∧ Q (.bl (!c)) H1
theorem pe_one {op} {t : TE} (h : PE X a t) : PE X (.BoolOp op [a] pos) t := fun pins s σ H Q I hw => BoolOp_one (h pins s σ H Q I hw)
theorem pe_and (ha : PE X a ta) (hb : PE X (.BoolOp .And (b :: rest) pos) tb) : PE X (.BoolOp .And (a :: b :: rest) pos) (tAndV ta tb) := by
  intro pins s σ H Q I h
  refine BoolOp_and (thn (ha pins s σ H _ I h) fun v s1 ⟨x, H1, I1, r1, q1⟩ => ?_)
  obtain ⟨c, rfl, q1⟩ := q1
  cases r1
  refine wpAny_truthy_bool ?_
  cases c with
  | true => exact hb pins s1 σ H1 Q I1 q1
  | false => exact ⟨.bl false, H1, I1, rfl, q1⟩
theorem pe_or (ha : PE X a ta) (hb : PE X (.BoolOp .Or (b :: rest) pos) tb) : PE X (.BoolOp .Or (a :: b :: rest) pos) (tOrV ta tb) := by
  intro pins s σ H Q I h
  refine BoolOp_or (thn (ha pins s σ H _ I h) fun v s1 ⟨x, H1, I1, r1, q1⟩ => ?_)
  obtain ⟨c, rfl, q1⟩ := q1
  cases r1
  refine wpAny_truthy_bool ?_
  cases c with
  | false => exact hb pins s1 σ H1 Q I1 q1
  | true => exact ⟨.bl true, H1, I1, rfl, q1⟩
theorem pe_not (ha : PE X a ta) : PE X (.UnaryOp .Not a pos) (tNotV ta) := by
  intro pins s σ H Q I h
  refine UnaryOp_ (thn (ha pins s σ H _ I h) fun v s1 ⟨x, H1, I1, r1, q1⟩ => ?_)
  obtain ⟨c, rfl, q1⟩ := q1
  cases r1
  exact not_of (wpAny_truthy_bool ⟨.bl (!c), H1, I1, rfl, q1⟩)
/-- a if t else b -/
def tIf (t : TT) (ta tb : TE) : TE := fun σ H Q => t σ H fun c H1 => if c = true then ta σ H1 Q else tb σ H1 Q
theorem pe_ifExp {c : Expr} (hc : PT X c tA) (ha : PE X a ta) (hb : PE X b tb) : PE X (.IfExp c a b pos) (tIf tA ta tb) := by
  intro pins s σ H Q I h
  refine wpAny_IfExp (thn (hc pins s σ H _ I h) fun d s1 ⟨H1, I1, q1⟩ => ?_)
  cases d with
  | true => exact ha pins s1 σ H1 Q I1 q1
  | false => exact hb pins s1 σ H1 Q I1 q1
end
end L2

namespace L2
open PySem PySem.Spec PyProof.Rows

/-! ### a list, a tuple that is read: tracked, frozen, or an object of the module -/
def SqL (K : PySem.W.Frag) (H : Hp) (a : Addr) (xs : List V) : Prop :=
  Rd H a (.lst xs) ∨
    ∃ (o : Obj) (its : Array Value) (n : Nat), K.lookup a = some o ∧ o.cls = .type "list" ∧ o.dict = none ∧ o.data = .seq its n ∧ its.size ≤ sizeLine ∧ Vals xs its.toList
def SqT (K : PySem.W.Frag) (H : Hp) (a : Addr) (xs : List V) : Prop :=
  Rd H a (.tup xs) ∨
    ∃ (o : Obj) (its : Array Value) (n : Nat), K.lookup a = some o ∧ o.cls = .type "tuple" ∧ o.data = .seq its n ∧ its.size ≤ sizeLine ∧ Vals xs its.toList
def absV : Value → Option V
  | .none => some .non
  | .bool b => some (.bl b)
  | .int i _ => some (.int i)
  | .str x _ => some (.str x)
  | .bytes b _ => some (.byt b)
  | .float b _ => some (.flt b)
  | .ref a => some (.ref a)
  | .type n => some (.ty n)
  | _ => none
theorem RelV.abs {x : V} {u : Value} (r : RelV x u) : absV u = some x := by
  cases x with
  | non => cases r; rfl
  | bl _ => cases r; rfl
  | int _ => obtain ⟨t, rfl⟩ := r; rfl
  | str _ => obtain ⟨t, rfl⟩ := r; rfl
  | byt _ => obtain ⟨t, rfl⟩ := r; rfl
  | flt _ => obtain ⟨t, rfl⟩ := r; rfl
  | ref _ => cases r; rfl
  | ty _ => cases r; rfl
theorem RelV.inj {x y : V} {u : Value} (r : RelV x u) (q : RelV y u) : x = y := Option.some.inj (r.abs.symm.trans q.abs)
theorem Vals.inj : ∀ {xs ys : List V} {us : List Value}, Vals xs us → Vals ys us → xs = ys
  | _, _, _, .nil, .nil => rfl
  | _, _, _, .cons r t, .cons r' t' => by rw [r.inj r', Vals.inj t t']
section
variable {X : Cx} {pins : List (Addr × Obj)} {σ : St} {H : Hp} {s : Shared} {a : Addr} {xs ys : List V}
theorem SqL.of {K : PySem.W.Frag} (h : H a = some (.lst xs)) : SqL K H a xs := .inl (.inl h)
theorem SqT.of {K : PySem.W.Frag} (h : H a = some (.tup xs)) : SqT K H a xs := .inl (.inl h)
theorem Inv.list (I : Inv X pins σ H s) (h : SqL X.K H a xs) : ∃ its : List Value, Vals xs its ∧ PlainL s.heap a its.toArray ∧ xs.length ≤ sizeLine := by
  rcases h with h | ⟨o, its, n, hk, hc, hd, hs, hz, r⟩
  · obtain ⟨z, its, n, r, e⟩ := h.ok I.hok
    exact ⟨its, r, ⟨_, n, e, rfl, rfl, rfl⟩, z⟩
  · refine ⟨its.toList, r, ⟨o, n, I.kIn a o hk, hc, hd, by simpa using hs⟩, ?_⟩
    have e := r.length
    simp only [Array.length_toList] at e
    omega
theorem Inv.tuple (I : Inv X pins σ H s) (h : SqT X.K H a xs) : ∃ its : List Value, Vals xs its ∧ IsTup s.heap a its.toArray ∧ xs.length ≤ sizeLine := by
  rcases h with h | ⟨o, its, n, hk, hc, hs, hz, r⟩
  · obtain ⟨z, its, r, p⟩ := h.ok I.hok
    exact ⟨its, r, p, z⟩
  · refine ⟨its.toList, r, ⟨o, I.kIn a o hk, hc, n, by simpa using hs⟩, ?_⟩
    have e := r.length
    simp only [Array.length_toList] at e
    omega
theorem Inv.list_inj (I : Inv X pins σ H s) (h : SqL X.K H a xs) (h' : SqL X.K H a ys) : xs = ys := by
  obtain ⟨its, r, ⟨o, n, e, _, _, d⟩, _⟩ := I.list h
  obtain ⟨its', r', ⟨o', n', e', _, _, d'⟩, _⟩ := I.list h'
  rw [e] at e'; cases e'
  rw [d] at d'
  injection d' with d1 _
  have : its = its' := by simpa using congrArg Array.toList d1
  subst this
  exact r.inj r'
theorem Inv.tuple_inj (I : Inv X pins σ H s) (h : SqT X.K H a xs) (h' : SqT X.K H a ys) : xs = ys := by
  obtain ⟨its, r, ⟨o, e, _, n, d⟩, _⟩ := I.tuple h
  obtain ⟨its', r', ⟨o', e', _, n', d'⟩, _⟩ := I.tuple h'
  rw [e] at e'; cases e'
  rw [d] at d'
  injection d' with d1 _
  have : its = its' := by simpa using congrArg Array.toList d1
  subst this
  exact r.inj r'
end

/-! ### another wish about exceptions -/
abbrev Cx.wish (X : Cx) (E : Value → Shared → Prop) : Cx := { X with xe := E }
/-- no exception leaves -/
abbrev Cx.nox (X : Cx) : Cx := X.wish fun _ _ => False
theorem Cx.Ok.wish {X : Cx} (ok : X.Ok) (E : Value → Shared → Prop) : (X.wish E).Ok :=
  ⟨ok.mod, ok.kind, ok.glob, ok.blt, ok.above, ok.inj, ok.has, ok.cab, ok.hd, ok.frames, ok.stk, ok.exf, ok.bs, ok.bsz, ok.noex, ok.exfs, ok.funs, ok.frf⟩
theorem Cx.Ok.unwish {X : Cx} {E : Value → Shared → Prop} (ok : (X.wish E).Ok) : X.Ok :=
  ⟨ok.mod, ok.kind, ok.glob, ok.blt, ok.above, ok.inj, ok.has, ok.cab, ok.hd, ok.frames, ok.stk, ok.exf, ok.bs, ok.bsz, ok.noex, ok.exfs, ok.funs, ok.frf⟩
section
variable {X : Cx} {pins : List (Addr × Obj)} {σ : St} {H : Hp} {s : Shared} {E : Value → Shared → Prop}
theorem Inv.wish (I : Inv X pins σ H s) (E : Value → Shared → Prop) : Inv (X.wish E) pins σ H s := ⟨I.ok.wish E, I.os, I.bare, I.base, I.loc, I.cell, I.free, I.freeC, I.pin, I.hok, I.len⟩
theorem Inv.unwish (I : Inv (X.wish E) pins σ H s) : Inv X pins σ H s := ⟨I.ok.unwish, I.os, I.bare, I.base, I.loc, I.cell, I.free, I.freeC, I.pin, I.hok, I.len⟩
theorem SP.unwish {D : Ends} {f : Flow} {s' : Shared} (h : SP (X.wish E) pins D f s') : SP X pins D f s' := by
  cases f with
  | next => obtain ⟨σ', H', I, q⟩ := h; exact ⟨σ', H', I.unwish, q⟩
  | brk => obtain ⟨σ', H', I, q⟩ := h; exact ⟨σ', H', I.unwish, q⟩
  | cont => obtain ⟨σ', H', I, q⟩ := h; exact ⟨σ', H', I.unwish, q⟩
  | ret u => obtain ⟨v, σ', H', I, r, q⟩ := h; exact ⟨v, σ', H', I.unwish, r, q⟩
theorem PE.nox {e : Expr} {t : TE} (h : PE X.nox e t) : PE X e t := fun pins s σ H Q I hw =>
  wpAny_mono (h pins s σ H Q (I.wish _) hw) (fun _ _ ⟨v, H', I', r, q⟩ => ⟨v, H', I'.unwish, r, q⟩) fun _ _ z => False.elim z
theorem PT.nox {e : Expr} {t : TT} (h : PT X.nox e t) : PT X e t := fun pins s σ H Q I hw =>
  wpAny_mono (h pins s σ H Q (I.wish _) hw) (fun _ _ ⟨H', I', q⟩ => ⟨H', I'.unwish, q⟩) fun _ _ z => False.elim z
theorem PSs.nox {st : List Stmt} {t : TS} (h : PSs X.nox st t) : PSs X st t := fun pins s σ H D I hw =>
  wpAny_mono (h pins s σ H D (I.wish _) hw) (fun _ _ q => q.unwish) fun _ _ z => False.elim z
end

/-! ### blocks and small statements -/
section
variable {X : Cx} {st : Stmt} {rest : List Stmt} {t u : TS} {e : Expr} {te : TE} {pos : Pos}
def tNext : TS := fun D σ H => D.nx σ H
def tSeq (t u : TS) : TS := fun D σ H => t { D with nx := u D } σ H
theorem pss_nil : PSs X [] tNext := fun _ _ σ H _ I h => wpAny_execs_nil ⟨σ, H, I, h⟩
theorem pss_cons (h1 : PS X st t) (h2 : PSs X rest u) : PSs X (st :: rest) (tSeq t u) := by
  intro pins s σ H D I h
  refine wpAny_execs_cons (thn (h1 pins s σ H { D with nx := u D } I h) fun f s1 q => ?_)
  cases f with
  | next =>
    obtain ⟨σ', H', I', q⟩ := q
    exact h2 pins s1 σ' H' D I' q
  | ret v => exact q
  | brk => exact q
  | cont => exact q
theorem pss_one (h1 : PS X st t) : PSs X [st] t := by
  intro pins s σ H D I h
  refine wpAny_execs_cons (thn (h1 pins s σ H D I h) fun f s1 q => ?_)
  cases f with
  | next => exact wpAny_execs_nil q
  | ret v => exact q
  | brk => exact q
  | cont => exact q
def tBreak : TS := fun D σ H => D.bk σ H
def tCont : TS := fun D σ H => D.ct σ H
theorem ps_pass : PS X (.Pass pos) tNext := fun _ _ σ H _ I h => wpAny_Pass ⟨σ, H, I, h⟩
theorem ps_break : PS X (.Break pos) tBreak := fun _ _ σ H _ I h => wpAny_Break ⟨σ, H, I, h⟩
theorem ps_continue : PS X (.Continue pos) tCont := fun _ _ σ H _ I h => wpAny_Continue ⟨σ, H, I, h⟩
/-- in a def's body nothing is shown -/
theorem Inv.quiet {pins : List (Addr × Obj)} {σ : St} {H : Hp} {s : Shared} (I : Inv X pins σ H s) : interactive X.env = false := by simp [interactive, I.ok.kind]
/-- a docstring -/
theorem ps_doc {x j pos pos'} : PS X (.Expr (.Constant (.str x) j pos) pos') tNext := fun _ s σ H _ I h => wpAny_Expr (Calls.Constant_str (show SP X _ _ .next { s with toks := s.toks + 1 } from ⟨σ, H, I.tok _, h⟩)) I.quiet
/-- an expression whose value is dropped -/
def tDrop (te : TE) : TS := fun D σ H => te σ H fun _ H1 => D.nx σ H1
theorem ps_expr (he : PE X e te) (hs : swapsWith e none pos.line X.env = pure false := by rfl) : PS X (.Expr e pos) (tDrop te) := by
  intro pins s σ H D I h
  exact wpAny_Expr_any (thn (he pins s σ H _ I h) fun v s1 ⟨x, H1, I1, r1, q1⟩ => ⟨σ, H1, I1, q1⟩) I.quiet hs
def tRet (te : TE) : TS := fun D σ H => te σ H D.rt
theorem ps_ret (he : PE X e te) : PS X (.Return (some e) pos) (tRet te) := by
  intro pins s σ H D I h
  exact wpAny_Return_some (thn (he pins s σ H _ I h) fun v s1 ⟨x, H1, I1, r1, q1⟩ => ⟨x, σ, H1, I1, r1, q1⟩)
def tRetN : TS := fun D _ H => D.rt .non H
theorem ps_retN : PS X (.Return none pos) tRetN := fun _ _ σ H _ I h => wpAny_Return_none ⟨.non, σ, H, I, rfl, h⟩
def tIfS (c : TT) (t u : TS) : TS := fun D σ H => c σ H fun b H1 => if b = true then t D σ H1 else u D σ H1
theorem ps_if {c : Expr} {a b : List Stmt} {tc : TT} (hc : PT X c tc) (ha : PSs X a t) (hb : PSs X b u) : PS X (.If c a b pos) (tIfS tc t u) := by
  intro pins s σ H D I h
  refine wpAny_If (thn (hc pins s σ H _ I h) fun d s1 ⟨H1, I1, q1⟩ => ?_)
  cases d with
  | true => exact ha pins s1 σ H1 D I1 q1
  | false => exact hb pins s1 σ H1 D I1 q1
/-- code that the proof never comes to -/
def tNever : TS := fun _ _ _ => False
theorem ps_never : PS X st tNever := fun _ _ _ _ _ _ h => h.elim
theorem pss_never {sts : List Stmt} : PSs X sts tNever := fun _ _ _ _ _ _ h => h.elim
end

/-! ### targets -/
abbrev TG := V → St → Hp → (St → Hp → Prop) → Prop
abbrev TGs := List V → St → Hp → (St → Hp → Prop) → Prop
def PG (X : Cx) (target : Expr) (t : TG) : Prop :=
  ∀ (pins : List (Addr × Obj)) (s : Shared) (σ : St) (H : Hp) (v : V) (u : Value) (Q : St → Hp → Prop), Inv X pins σ H s → RelV v u → t v σ H Q →
    wpAny (model X.prog X.w) X.A (assign target X.env u) (fun _ s' => ∃ σ' H', Inv X pins σ' H' s' ∧ Q σ' H') X.xe s
/-- several targets, one after another -/
def PGs (X : Cx) (ts : List Expr) (t : TGs) : Prop :=
  ∀ (pins : List (Addr × Obj)) (s : Shared) (σ : St) (H : Hp) (vs : List V) (us : List Value) (Q : St → Hp → Prop), Inv X pins σ H s → Vals vs us → t vs σ H Q →
    wpAny (model X.prog X.w) X.A (assignInOrder ((assignEach ts X.env).map (·.2)) us) (fun _ s' => ∃ σ' H', Inv X pins σ' H' s' ∧ Q σ' H') X.xe s
/-- o[i] = v, by values -/
abbrev TSet := V → V → V → Hp → (Hp → Prop) → Prop
def PSet (X : Cx) (t : TSet) : Prop :=
  ∀ (pins : List (Addr × Obj)) (s : Shared) (σ : St) (H : Hp) (o i v : V) (ov iv u : Value) (Q : Hp → Prop), Inv X pins σ H s → RelV o ov → RelV i iv → RelV v u → t o i v H Q →
    wpAny (model X.prog X.w) X.A (setItem ov iv u) (fun _ s' => ∃ H', Inv X pins σ H' s' ∧ Q H') X.xe s
/-- a op= b, by values -/
abbrev TIp := V → V → Hp → VK → Prop
def PIp (X : Cx) (op : Operator) (t : TIp) : Prop :=
  ∀ (pins : List (Addr × Obj)) (s : Shared) (σ : St) (H : Hp) (x y : V) (v u : Value) (Q : VK), Inv X pins σ H s → RelV x v → RelV y u → t x y H Q →
    wpAny (model X.prog X.w) X.A (inplaceOp op v u) (EP X pins σ Q) X.xe s
section
variable {X : Cx} {pos : Pos}
def gName (i : Nat) : TG := fun v σ H Q => Q (σ.set i (some v)) H
theorem pg_name {i : Nat} {x : Str} (hN : X.N.Nodup) (hi : X.N[i]? = some x) (hx : Loc X.env.scope x) (hf : X.fn x = true ∨ X.env.scope.names.lookup x = some .local := by first | exact .inl rfl | exact .inr rfl | assumption) : PG X (.Name x pos) (gName i) := by
  intro pins s σ H v u Q I r h
  exact wpAny_assign_Name (store_ok I hN hi hx r (fun s' I' => ⟨_, H, I', h⟩) hf)
def gNil : TGs := fun vs σ H Q => vs = [] ∧ Q σ H
def gCons (t : TG) (u : TGs) : TGs := fun vs σ H Q => ∃ v r, vs = v :: r ∧ t v σ H fun σ' H' => u r σ' H' Q
theorem pgs_nil : PGs X [] gNil := by
  intro pins s σ H vs us Q I r h
  obtain ⟨e, h⟩ := h
  subst e
  cases r
  exact assignInOrder_nil ⟨σ, H, I, h⟩
theorem pgs_cons {e : Expr} {es : List Expr} {t : TG} {u : TGs} (h1 : PG X e t) (h2 : PGs X es u)
    (hs : (assignEach (e :: es) X.env).map (·.2) = assign e X.env :: (assignEach es X.env).map (·.2) := by rfl) : PGs X (e :: es) (gCons t u) := by
  intro pins s σ H vs us Q I r h
  obtain ⟨v, vr, e1, h⟩ := h
  subst e1
  cases r with
  | cons r rr =>
    rw [hs]
    refine assignInOrder_cons (thn (h1 pins s σ H _ _ _ I r h) fun _ s1 ⟨σ1, H1, I1, q1⟩ => ?_)
    exact h2 pins s1 σ1 H1 _ _ Q I1 rr q1
/-- (a, b, ..) = a tuple of that length -/
def gTup (K : PySem.W.Frag) (n : Nat) (t : TGs) : TG := fun v σ H Q => ∃ a xs, v = .ref a ∧ SqT K H a xs ∧ xs.length = n ∧ t xs σ H Q
theorem pg_tup {es : List Expr} {k : Nat} {t : TGs} {n : Nat} (hc : X.calm = true) (h : PGs X es t)
    (hn : (assignEach es X.env).length = n := by rfl) (hst : (assignEach es X.env).findIdx? (·.1) = none := by rfl) : PG X (.Tuple es k pos) (gTup X.K n t) := by
  intro pins s σ H v u Q I r hw
  obtain ⟨a, xs, e1, hq, hl, hw⟩ := hw
  subst e1
  cases r
  obtain ⟨its, rv, ht, hz⟩ := I.tuple hq
  refine assign_Tuple_tuple (I.ok.hd hc) ht (by simp [hn, ← hl, rv.length]) hst fun h' hx => ?_
  have I1 : Inv X pins σ H { s with heap := h' } := I.kept (t' := s.toks) fun b o e => hx b o (Nat.ne_of_lt (Heap.lt_size e)) e
  exact h pins _ σ H xs _ Q I1 (by simpa using rv) hw
/-- o[i] = .. -/
def gSub (to ti : TE) (t : TSet) : TG := fun v σ H Q => to σ H fun o H1 => ti σ H1 fun i H2 => t o i v H2 fun H3 => Q σ H3
theorem pg_sub {o i : Expr} {to ti : TE} {t : TSet} (ho : PE X o to) (hi : PE X i ti) (hs : PSet X t)
    (ha : ∀ v, assign (.Subscript o i pos) X.env v = (do
      let ov ← holding [v] (eval o X.env)
      let iv ← holding [v, ov] (eval i X.env)
      standAt pos
      holding [v, ov, iv] (setItem ov iv v)
      release [v, ov, iv] []) := by intro _; rfl) : PG X (.Subscript o i pos) (gSub to ti t) := by
  intro pins s σ H v u Q I r h
  rw [ha]
  refine wpAny_bind (wpAny_holding (thn (ho pins s σ H _ I h) fun ov s1 ⟨x, H1, I1, r1, q1⟩ => ?_))
  refine wpAny_bind (wpAny_holding (thn (hi pins s1 σ H1 _ I1 q1) fun iv s2 ⟨y, H2, I2, r2, q2⟩ => ?_))
  refine wpAny_bind (wpAny_standAt (wpAny_bind (wpAny_holding (thn (hs pins s2 σ H2 x y v ov iv u _ I2 r1 r2 r q2) fun _ s3 ⟨H3, I3, q3⟩ => ?_))))
  exact wpAny_release ⟨σ, H3, I3, q3⟩
/-- target = value -/
def tAsg (te : TE) (g : TG) : TS := fun D σ H => te σ H fun x H1 => g x σ H1 D.nx
theorem ps_asg {tg e : Expr} {te : TE} {g : TG} (he : PE X e te) (hg : PG X tg g) (hs : swapsWithSole [tg] e pos.line X.env = pure false := by rfl) (hw : swappedStores [tg] e X.env = pure none := by rfl)
    (h1 : (assignEach [tg] X.env).map (·.2) = [assign tg X.env] := by rfl) : PS X (.Assign [tg] e pos) (tAsg te g) := by
  intro pins s σ H D I h
  refine wpAny_Assign_stores (thn (he pins s σ H _ I h) fun v s1 ⟨x, H1, I1, r1, q1⟩ => ?_) hs hw
  rw [h1]
  exact thn (hg pins s1 σ H1 x v _ I1 r1 q1) fun _ s2 q => q
/-- name = value -/
theorem ps_set {i : Nat} {x : Str} {e : Expr} {te : TE} {pos' : Pos} (hN : X.N.Nodup) (hi : X.N[i]? = some x) (hx : Loc X.env.scope x) (he : PE X e te) (hs : swapsWith e (some (.Name x pos')) pos.line X.env = pure false := by rfl) (hf : X.fn x = true ∨ X.env.scope.names.lookup x = some .local := by first | exact .inl rfl | exact .inr rfl | assumption) :
    PS X (.Assign [.Name x pos'] e pos) (tAsg te (gName i)) := by
  intro pins s σ H D I h
  refine wpAny_Assign_Name (thn (he pins s σ H _ I h) fun v s1 ⟨y, H1, I1, r1, q1⟩ => ?_) hs
  exact store_ok I1 hN hi hx r1 (fun s2 I2 => ⟨_, H1, I2, q1⟩) hf
/-- a, b = x, y with plain local names: stored from the right; the pair itself is not tracked (the opening rows as in PyProof/Rows/TupAssign.lean:23) -/
def tPar (i j : Nat) (ta : TA) : TS := fun D σ H => ta σ H fun vs H1 => ∃ v w, vs = [v, w] ∧ D.nx ((σ.set i (some v)).set j (some w)) H1
theorem ps_par {i j : Nat} {x y : Str} {a b : Expr} {ta : TA} {px py pt : Pos} {kt k2 pt2} (hc : X.calm = true) (hN : X.N.Nodup) (hi : X.N[i]? = some x) (hj : X.N[j]? = some y) (hij : i ≠ j)
    (hx : X.env.scope.names.lookup x = some .local) (hy : X.env.scope.names.lookup y = some .local) (ha : PA X [a, b] ta)
    (hw : swappedStores [.Tuple [.Name x px, .Name y py] kt pt] (.Tuple [a, b] k2 pt2) X.env = pure (some [x, y]))
    (hs : swapsWithSole [.Tuple [.Name x px, .Name y py] kt pt] (.Tuple [a, b] k2 pt2) pos.line X.env = pure false := by rfl) :
    PS X (.Assign [.Tuple [.Name x px, .Name y py] kt pt] (.Tuple [a, b] k2 pt2) pos) (tPar i j ta) := by
  intro pins s σ H D I h
  rw [exec_Assign_arm]
  refine wpAny_bind (wpAny_standAt ?_)
  rw [hs]
  refine wpAny_bind (wpAny_pure ?_)
  rw [if_neg (by decide)]
  refine wpAny_bind (Tuple_ (thn (ha _ pins s σ H _ I h) fun us s1 ⟨vs, H1, I1, r1, q1⟩ => ?_))
  obtain ⟨v, w, e1, q1⟩ := q1
  subst e1
  obtain ⟨u1, u2, rfl, rv, rw'⟩ : ∃ u1 u2, us = [u1, u2] ∧ RelV v u1 ∧ RelV w u2 := by
    cases r1 with
    | cons p q =>
      cases q with
      | cons p' q' =>
        cases q'
        exact ⟨_, _, rfl, p, p'⟩
  refine wpAny_newObj_type ?_ (by show 2 ≤ sizeLine; decide)
  have I2 : Inv X pins σ H1 { s1 with heap := s1.heap.push { cls := .type "tuple", data := .seq [u1, u2].toArray } } := I1.kept (t' := s1.toks) fun b o e => Heap.get?_push_of_some _ e
  rw [hw]
  refine wpAny_bind (wpAny_pure ?_)
  show wpAny (model X.prog X.w) X.A (do rule "assign.swapped-stores"; let items ← unpackItems (.ref s1.heap.objs.size) 2 none; assignInOrder [fun v => bindName X.env y v, fun v => bindName X.env x v] items.reverse; pure Flow.next) _ _ _
  refine wpAny_bind (wpAny_rule (wpAny_bind (unpackItems_tuple (items := #[u1, u2]) (I.ok.hd hc) (IsTup.new s1.heap _) fun h' hx' => ?_)))
  have I3 := I2.kept (h' := h') (t' := s1.toks) fun b o e => hx' b o (Nat.ne_of_lt (Heap.lt_size e)) e
  show wpAny _ _ (assignInOrder [fun v => bindName X.env y v, fun v => bindName X.env x v] [u2, u1] >>= fun _ => pure Flow.next) _ _ _
  refine wpAny_bind (assignInOrder_cons (wpAny_bindName (store_ok I3 hN hj (.inl hy) rw' (fun s2 I4 => ?_) (.inr hy))))
  refine assignInOrder_cons (wpAny_bindName (store_ok I4 hN hi (.inl hx) rv (fun s3 I5 => assignInOrder_nil (wpAny_pure ?_)) (.inr hx)))
  rw [List.set_comm _ _ (Ne.symm hij)] at I5
  exact ⟨_, H1, I5, q1⟩
/-- name op= e -/
def tAug (i : Nat) (te : TE) (ti : TIp) : TS := fun D σ H => ∃ x, σ[i]? = some (some x) ∧ te σ H fun y H1 => ti x y H1 fun z H2 => D.nx (σ.set i (some z)) H2
theorem ps_aug {i : Nat} {x : Str} {e : Expr} {te : TE} {op : Operator} {ti : TIp} {pos' : Pos} (hN : X.N.Nodup) (hi : X.N[i]? = some x) (hx : Loc X.env.scope x) (he : PE X e te) (ho : PIp X op ti) (hf : X.fn x = true ∨ X.env.scope.names.lookup x = some .local := by first | exact .inl rfl | exact .inr rfl | assumption) :
    PS X (.AugAssign (.Name x pos') op e pos) (tAug i te ti) := by
  intro pins s σ H D I h
  obtain ⟨v, e1, h⟩ := h
  obtain ⟨m, hn, hl⟩ := I.loc
  have vis : Vis X.env.scope x := by rcases hx with k | k; exact .inl k; exact .inr (.inl k)
  obtain ⟨u, r, l⟩ := hl i x v hi e1 vis
  refine wpAny_AugAssign_Name ?_
  have go : wpAny (model X.prog X.w) X.A (eval e X.env) (fun w s₂ => wpAny (model X.prog X.w) X.A (inplaceOp op u w) (fun r s₃ => wpAny (model X.prog X.w) X.A (storeName X.env x r) (fun _ => SP X pins D .next) X.xe s₃) X.xe s₂) X.xe s := by
    refine thn (he pins s σ H _ I h) fun w s1 ⟨y, H1, I1, r1, q1⟩ => ?_
    refine thn (ho pins s1 σ H1 v y u w _ I1 r r1 q1) fun z s2 ⟨zv, H2, I2, r2, q2⟩ => ?_
    exact store_ok I2 hN hi hx r2 (fun s3 I3 => ⟨_, H2, I3, q2⟩) hf
  rcases l with ⟨hk, hm⟩ | ⟨hk, c, hc, hcell⟩
  · exact wpAny_loadName_local I.ok.kind hk hn hm go
  · rcases hk with hk | hk
    · exact wpAny_loadName_cell I.ok.kind hk hc hcell go
    · rcases hx with k | k
      · have : X.env.scope.names.lookup x = some .free := hk
        rw [k] at this; cases this
      · have : X.env.scope.names.lookup x = some .free := hk
        rw [k] at this; cases this
/-- o[i] op= e -/
def tAugS (to ti te : TE) (tget : V → V → Hp → VK → Prop) (tip : TIp) (tset : TSet) : TS := fun D σ H => to σ H fun o H1 => ti σ H1 fun i H2 => tget o i H2 fun x H3 => te σ H3 fun y H4 => tip x y H4 fun z H5 => tset o i z H5 fun H6 => D.nx σ H6
/-- o[i], by values -/
def PGet (X : Cx) (t : V → V → Hp → VK → Prop) : Prop :=
  ∀ (pins : List (Addr × Obj)) (s : Shared) (σ : St) (H : Hp) (o i : V) (ov iv : Value) (Q : VK), Inv X pins σ H s → RelV o ov → RelV i iv → t o i H Q →
    wpAny (model X.prog X.w) X.A (getItem ov iv) (EP X pins σ Q) X.xe s
theorem ps_augS {o i e : Expr} {to ti te : TE} {tget : V → V → Hp → VK → Prop} {tip : TIp} {tset : TSet} {op : Operator} {tpos : Pos} (ho : PE X o to) (hi : PE X i ti) (hg : PGet X tget) (he : PE X e te) (hp : PIp X op tip) (hs : PSet X tset)
    (ha : ∀ ov iv new, augStore i ov iv new = (do holding [new, ov, iv] (setItem ov iv new); release [new, ov, iv] []; pure .next) := by intros; rfl) : PS X (.AugAssign (.Subscript o i tpos) op e pos) (tAugS to ti te tget tip tset) := by
  intro pins s σ H D I h
  refine wpAny_AugAssign_SubscriptAny (thn (ho pins s σ H _ I h) fun ov s1 ⟨x1, H1, I1, r1, q1⟩ => ?_) ha
  refine thn (hi pins s1 σ H1 _ I1 q1) fun iv s2 ⟨x2, H2, I2, r2, q2⟩ => ?_
  refine thn (hg pins s2 σ H2 x1 x2 ov iv _ I2 r1 r2 q2) fun old s3 ⟨x3, H3, I3, r3, q3⟩ => ?_
  refine thn (he pins s3 σ H3 _ I3 q3) fun v s4 ⟨x4, H4, I4, r4, q4⟩ => ?_
  refine thn (hp pins s4 σ H4 x3 x4 old v _ I4 r3 r4 q4) fun new s5 ⟨x5, H5, I5, r5, q5⟩ => ?_
  exact thn (hs pins s5 σ H5 x1 x2 x5 ov iv new _ I5 r1 r2 r5 q5) fun _ s6 ⟨H6, I6, q6⟩ => ⟨σ, H6, I6, q6⟩
/-- ints -/
def ipI (f : Int → Int → Int) : TIp := fun x y H Q => ∃ i j, x = .int i ∧ y = .int j ∧ Q (.int (f i j)) H
theorem ip_add : PIp X .Add (ipI fun i j => i + j) := by
  intro pins s σ H x y v u Q I r1 r2 h
  obtain ⟨i, j, e1, e2, q⟩ := h
  subst e1; subst e2
  obtain ⟨t, rfl⟩ := r1
  obtain ⟨t', rfl⟩ := r2
  exact iadd_int ⟨.int _, H, I.tok _, ⟨_, rfl⟩, q⟩
theorem ip_sub : PIp X .Sub (ipI fun i j => i - j) := by
  intro pins s σ H x y v u Q I r1 r2 h
  obtain ⟨i, j, e1, e2, q⟩ := h
  subst e1; subst e2
  obtain ⟨t, rfl⟩ := r1
  obtain ⟨t', rfl⟩ := r2
  exact isub_int ⟨.int _, H, I.tok _, ⟨_, rfl⟩, q⟩
end

/-! ### while -/
section
variable {X : Cx} {pos : Pos}
/-- the invariant W with its measure -/
def tWhile (c : TT) (tb : TS) : TS := fun D σ H => ∃ W : Nat → St → Hp → Prop, (∃ m, W m σ H) ∧ ∀ m σ H, W m σ H →
  c σ H fun b H1 => if b = true then ∃ N : St → Hp → Prop, (∀ σ' H', N σ' H' → ∃ m', m' < m ∧ W m' σ' H') ∧ tb { D with nx := N, ct := N, bk := D.nx } σ H1 else D.nx σ H1
theorem ps_while {c : Expr} {body : List Stmt} {tc : TT} {tb : TS} (hp : PassesOwn (model X.prog X.w) X.A X.env X.xe) (hc : PT X c tc) (hb : PSs X body tb) : PS X (.While c body [] pos) (tWhile tc tb) := by
  intro pins s σ H D I h
  obtain ⟨W, ⟨m0, w0⟩, turn⟩ := h
  refine wpAny_While (codeAny_whileLoop (fun n s' => ∃ σ' H', Inv X pins σ' H' s' ∧ W n σ' H') ?_ m0 ⟨σ, H, I, w0⟩)
  rintro n s1 ⟨σ1, H1, I1, w1⟩
  refine wpAny_passesOwn hp (thn (hc pins s1 σ1 H1 _ I1 (turn n σ1 H1 w1)) fun b s2 ⟨H2, I2, q2⟩ => ?_)
  cases b with
  | true =>
    obtain ⟨N, hN, q2⟩ := q2
    rw [if_pos rfl]
    refine wpAny_passesOwn hp (thn (hb pins s2 σ1 H2 _ I2 q2) fun f s3 q3 => ?_)
    cases f with
    | next =>
      obtain ⟨σ3, H3, I3, n3⟩ := q3
      obtain ⟨m', hm, w3⟩ := hN σ3 H3 n3
      exact ⟨m', hm, σ3, H3, I3, w3⟩
    | cont =>
      obtain ⟨σ3, H3, I3, n3⟩ := q3
      obtain ⟨m', hm, w3⟩ := hN σ3 H3 n3
      exact ⟨m', hm, σ3, H3, I3, w3⟩
    | brk => exact q3
    | ret v => exact q3
  | false =>
    rw [if_neg Bool.false_ne_true]
    exact wpAny_execs_nil ⟨σ1, H2, I2, q2⟩
end

/-! ### what a loop or a comprehension walks -/
/-- at turn i: it yields x (the heap may grow), or it stops -/
structure It where
  go : Nat → Hp → Prop
  yld : Nat → Hp → V → Hp → Prop
  stop : Nat → Hp → Prop
/-- the iterator's own objects may turn: they are not the frame's, not pinned, younger than the entry (or a comprehension's own) -/
def FpOk (X : Cx) (pins : List (Addr × Obj)) (H : Hp) (b : Addr) : Prop :=
  H b = none ∧ b ≠ X.env.locals ∧ b ∉ X.fs ∧ (b ∈ X.ex ∨ X.s₀.heap.objs.size ≤ b) ∧ (∀ x c, X.env.cells.lookup x = some c → c ≠ b) ∧ ∀ p ∈ X.pn ++ pins, p.1 ≠ b
theorem Inv.fpOk {X : Cx} {pins : List (Addr × Obj)} {σ : St} {H H' : Hp} {s : Shared} {b : Addr} (I : Inv X pins σ H s) (hb : s.heap.objs.size ≤ b) (hn : H' b = none) : FpOk X pins H' b := by
  refine ⟨hn, Nat.ne_of_gt (Nat.lt_of_lt_of_le I.lt hb), I.nofs hb, .inr (Nat.le_trans I.sz hb), fun x c e z => ?_, fun p hp z => ?_⟩
  · obtain ⟨v, q⟩ := I.cell x c e
    exact absurd (Nat.lt_of_lt_of_le q.lt (by rw [z]; exact hb)) (Nat.lt_irrefl _)
  · exact absurd (Nat.lt_of_lt_of_le (Heap.lt_size (I.pin p hp).1) (by rw [z]; exact hb)) (Nat.lt_irrefl _)
structure Turn (P : Program) (w : World) (K : PySem.W.Frag) (tg : Expr) (J : It) (fp : List Addr) (it : Addr) (tn : Nat → Heap → Prop) : Prop where
  mem : it ∈ fp
  obj : ∀ i h, tn i h → ∀ b ∈ fp, ∃ o, h.get? b = some o ∧ ∀ v, o.data ≠ .cell v
  keep : ∀ i h h', tn i h → (∀ b ∈ fp, ∀ o, h.get? b = some o → h'.get? b = some o) → tn i h'
  item : ∀ (X : Cx), X.prog = P → X.w = w → X.K = K → X.calm = true → ∀ (i : Nat) (pins : List (Addr × Obj)) (s : Shared) (σ : St) (H : Hp) (E : Value → Shared → Prop), Inv X pins σ H s → (∀ b ∈ fp, FpOk X pins H b) → tn i s.heap → J.go i H →
    wpAny (model P w) X.A (pyNext (.ref it)) (fun r s1 => ∃ u, r = some u ∧
      wpAny (model P w) X.A (letOwnedTupleGo tg (.ref it) u) (fun _ s2 => ∃ x H', Inv X pins σ H' s2 ∧ RelV x u ∧ J.yld i H x H' ∧ tn (i + 1) s2.heap ∧ ∀ b ∈ fp, H' b = none) E s1) E s
  done : ∀ (X : Cx), X.prog = P → X.w = w → X.K = K → X.calm = true → ∀ (i : Nat) (pins : List (Addr × Obj)) (s : Shared) (σ : St) (H : Hp) (E : Value → Shared → Prop), Inv X pins σ H s → (∀ b ∈ fp, FpOk X pins H b) → tn i s.heap → J.stop i H →
    wpAny (model P w) X.A (pyNext (.ref it)) (fun r s1 => r = none ∧ Inv X pins σ H s1) E s
  self : ∀ (A : Around) (i : Nat) (s : Shared) (Q : Value → Shared → Prop) (E : Value → Shared → Prop), tn i s.heap → Q (.ref it) s → wpAny (model P w) A (pyIter (.ref it)) Q E s
abbrev TI := St → Hp → (It → Hp → Prop) → Prop
/-- an iterator has come -/
def PIE (X : Cx) (pins : List (Addr × Obj)) (σ : St) (tg : Expr) (R : It → Hp → Prop) (itv : Value) (s2 : Shared) : Prop :=
  ∃ (it : Addr) (fp : List Addr) (tn : Nat → Heap → Prop) (J : It) (H' : Hp), itv = .ref it ∧ Inv X pins σ H' s2 ∧ Turn X.prog X.w X.K tg J fp it tn ∧ tn 0 s2.heap ∧ (∀ b ∈ fp, FpOk X pins H' b) ∧ R J H'
def PI (X : Cx) (tg iter : Expr) (wi : TI) : Prop :=
  ∀ (pins : List (Addr × Obj)) (s : Shared) (σ : St) (H : Hp) (R : It → Hp → Prop), Inv X pins σ H s → wi σ H R →
    wpAny (model X.prog X.w) X.A (eval iter X.env) (fun v s1 => wpAny (model X.prog X.w) X.A (pyIter v) (PIE X pins σ tg R) X.xe s1) X.xe s

/-- the step ahead of the store is nothing for an iterator that keeps no tuple -/
theorem go_of {M : Model} {A : Around} {E : Value → Shared → Prop} {s : Shared} {tg : Expr} {it : Addr} {u : Value} {o : Obj} {n : String} {vs : Array Value} {Q : Unit → Shared → Prop} (ho : s.heap.get? it = some o) (hc : o.cls = .type n) (hd : o.data = .fields vs)
    (hn : ["enumerate", "zip", "dict_itemiterator", "dict_reverseitemiterator", "odict_iterator", "itertools.zip_longest", "itertools.pairwise"].contains n = false) (hQ : Q () s) : wpAny M A (letOwnedTupleGo tg (.ref it) u) Q E s := by
  unfold letOwnedTupleGo
  cases tg <;> first
    | exact wpAny_pure hQ
    | (cases u <;> first
        | exact wpAny_pure hQ
        | (refine wpAny_bind (wpAny_load ho ?_)
           rw [hc, hd]
           show wpAny M A (if (["enumerate", "zip", "dict_itemiterator", "dict_reverseitemiterator", "odict_iterator", "itertools.zip_longest", "itertools.pairwise"].contains n && vs[0]? == some (rawInt _)) = true then _ else _) Q E s
           rw [if_neg (by intro h; rw [hn, Bool.false_and] at h; cases h)]
           exact wpAny_pure hQ))

/-- the list at a, as it stands at each turn (a loop may append to it) -/
def Itl (K : PySem.W.Frag) (a : Addr) : It :=
  ⟨fun i H => ∃ xs x, SqL K H a xs ∧ xs[i]? = some x, fun i H x H' => H' = H ∧ ∀ xs, SqL K H a xs → xs[i]? = some x, fun i H => ∃ xs, SqL K H a xs ∧ xs.length ≤ i⟩
def Itt (K : PySem.W.Frag) (a : Addr) : It :=
  ⟨fun i H => ∃ xs x, SqT K H a xs ∧ xs[i]? = some x, fun i H x H' => H' = H ∧ ∀ xs, SqT K H a xs → xs[i]? = some x, fun i H => ∃ xs, SqT K H a xs ∧ xs.length ≤ i⟩
/-- lo, lo + 1, .. (n of them) -/
def Itr (lo : Int) (n : Nat) : It := ⟨fun i _ => i < n, fun i H x H' => H' = H ∧ x = .int (lo + i), fun i _ => n ≤ i⟩
theorem turn_list {P : Program} {w : World} {K : PySem.W.Frag} {tg : Expr} (a it : Addr) : Turn P w K tg (Itl K a) [it] it (fun i h => h.IsListIter it a i) where
  mem := by simp
  obj := fun i h st b hb => by
    have e : b = it := by simpa using hb
    subst e
    obtain ⟨o, e, c, d⟩ := st
    exact ⟨o, e, fun v z => by rw [d] at z; cases z⟩
  keep := fun i h h' st k => st.at fun o e => k it (by simp) o e
  item := by
    intro X hP hw hK hc i pins s σ H E I hf st hg
    subst hP hw hK
    obtain ⟨xs, x, hq, hx⟩ := hg
    obtain ⟨its, rv, p, hz⟩ := I.list hq
    obtain ⟨u, hu, ru⟩ := rv.get hx
    obtain ⟨f0, f1, f2, f3, f4, f5⟩ := hf it (by simp)
    refine wpAny_pyNext_list_item st p.isList (x := u) (by simpa using hu) fun h' st' sb => ?_
    have I1 : Inv X pins σ H { s with heap := h' } := I.turned (t' := s.toks) (fun b o hb e => (sb.2 b hb).trans e) f0 f1 f3 f4 f5
    obtain ⟨o, e, c, d⟩ := id st'
    exact ⟨u, rfl, go_of (s := { s with heap := h' }) e c d (by decide) ⟨x, H, I1, ru, ⟨rfl, fun ys hy => by rw [I.list_inj hy hq]; exact hx⟩, st', fun b hb => (hf b hb).1⟩⟩
  done := by
    intro X hP hw hK hc i pins s σ H E I hf st hg
    subst hP hw hK
    obtain ⟨xs, hq, hx⟩ := hg
    obtain ⟨its, rv, p, hz⟩ := I.list hq
    obtain ⟨f0, f1, f2, f3, f4, f5⟩ := hf it (by simp)
    have hl := rv.length
    exact wpAny_pyNext_list_end (I.ok.hd hc) st p.isList (by simp; omega) fun h' eb => ⟨rfl, I.turned (t' := s.toks) (fun b o hb e => eb b o hb e) f0 f1 f3 f4 f5⟩
  self := fun _ _ _ _ _ st h => wpAny_pyIter_listiter st h
theorem turn_tuple {P : Program} {w : World} {K : PySem.W.Frag} {tg : Expr} (a it : Addr) : Turn P w K tg (Itt K a) [it] it (fun i h => h.IsTupleIter it a i) where
  mem := by simp
  obj := fun i h st b hb => by
    have e : b = it := by simpa using hb
    subst e
    obtain ⟨o, e, c, d⟩ := st
    exact ⟨o, e, fun v z => by rw [d] at z; cases z⟩
  keep := fun i h h' st k => st.at fun o e => k it (by simp) o e
  item := by
    intro X hP hw hK hc i pins s σ H E I hf st hg
    subst hP hw hK
    obtain ⟨xs, x, hq, hx⟩ := hg
    obtain ⟨its, rv, p, hz⟩ := I.tuple hq
    obtain ⟨u, hu, ru⟩ := rv.get hx
    obtain ⟨f0, f1, f2, f3, f4, f5⟩ := hf it (by simp)
    refine wpAny_pyNext_tuple_item st (show s.heap.IsTuple a its.toArray from p) (x := u) (by simpa using hu) fun h' st' sb => ?_
    have I1 : Inv X pins σ H { s with heap := h' } := I.turned (t' := s.toks) (fun b o hb e => (sb.2 b hb).trans e) f0 f1 f3 f4 f5
    obtain ⟨o, e, c, d⟩ := id st'
    exact ⟨u, rfl, go_of (s := { s with heap := h' }) e c d (by decide) ⟨x, H, I1, ru, ⟨rfl, fun ys hy => by rw [I.tuple_inj hy hq]; exact hx⟩, st', fun b hb => (hf b hb).1⟩⟩
  done := by
    intro X hP hw hK hc i pins s σ H E I hf st hg
    subst hP hw hK
    obtain ⟨xs, hq, hx⟩ := hg
    obtain ⟨its, rv, p, hz⟩ := I.tuple hq
    obtain ⟨f0, f1, f2, f3, f4, f5⟩ := hf it (by simp)
    have hl := rv.length
    exact wpAny_pyNext_tuple_end (I.ok.hd hc) st (show s.heap.IsTuple a its.toArray from p) (by simp; omega) fun h' eb => ⟨rfl, I.turned (t' := s.toks) (fun b o hb e => eb b o hb e) f0 f1 f3 f4 f5⟩
  self := fun _ _ _ _ _ st h => wpAny_pyIter_tupleiter st h
theorem turn_range {P : Program} {w : World} {K : PySem.W.Frag} {tg : Expr} (it : Addr) (lo : Int) (n : Nat) : Turn P w K tg (Itr lo n) [it] it (fun i h => IsRangeIter h it (lo + (i : Nat) * 1) ((n : Int) - (i : Nat)) 1) where
  mem := by simp
  obj := fun i h st b hb => by
    have e : b = it := by simpa using hb
    subst e
    exact ⟨_, st, fun v z => by
      have z' : Data.fields _ = Data.cell v := z
      cases z'⟩
  keep := fun i h h' st k => k it (by simp) _ st
  item := by
    intro X hP hw hK hc i pins s σ H E I hf st hg
    subst hP hw hK
    obtain ⟨f0, f1, f2, f3, f4, f5⟩ := hf it (by simp)
    have W := Walks.range (prog := X.prog) (w := X.w) (I.ok.hd hc) it lo 1 n
    refine W.item i s _ _ hg st fun v h' tk hv st' kk => ?_
    obtain ⟨t, rfl⟩ := hv
    have I1 : Inv X pins σ H { s with heap := h', toks := tk } := I.turned (fun b o hb e => kk b o (by simpa using hb) e) f0 f1 f3 f4 f5
    refine ⟨_, rfl, go_of (s := { s with heap := h', toks := tk }) (n := "range_iterator") st' rfl rfl (by decide) ⟨.int (lo + i), H, I1, ⟨t, ?_⟩, ⟨rfl, rfl⟩, st', fun b hb => (hf b hb).1⟩⟩
    rw [Int.mul_one]
  done := by
    intro X hP hw hK hc i pins s σ H E I hf st hg
    subst hP hw hK
    obtain ⟨f0, f1, f2, f3, f4, f5⟩ := hf it (by simp)
    exact wpAny_pyNext_range_end (I.ok.hd hc) st (by have : n ≤ i := hg; omega) fun h' eb => ⟨rfl, I.turned (t' := s.toks) (fun b o hb e => eb b o hb e) f0 f1 f3 f4 f5⟩
  self := fun _ _ _ _ _ st h => wpAny_pyIter_rangeiter st h
end L2

namespace L2
open PySem PySem.Spec PyProof.Rows
section
variable {X : Cx} {tg : Expr}
def iList (K : PySem.W.Frag) (tl : TE) : TI := fun σ H R => tl σ H fun x H1 => ∃ a, x = .ref a ∧ (∃ xs, SqL K H1 a xs) ∧ R (Itl K a) H1
def iTup (K : PySem.W.Frag) (tl : TE) : TI := fun σ H R => tl σ H fun x H1 => ∃ a, x = .ref a ∧ (∃ xs, SqT K H1 a xs) ∧ R (Itt K a) H1
theorem pi_list {l : Expr} {tl : TE} (hl : PE X l tl) : PI X tg l (iList X.K tl) := by
  intro pins s σ H R I h
  refine thn (hl pins s σ H _ I h) fun v s1 ⟨x, H1, I1, r1, q1⟩ => ?_
  obtain ⟨a, e, ⟨xs, hq⟩, q⟩ := q1
  subst e
  cases r1
  obtain ⟨its, rv, p, hz⟩ := I1.list hq
  refine wpAny_pyIter_list p.isList ?_
  refine ⟨s1.heap.objs.size, [s1.heap.objs.size], _, _, H1, rfl, I1.kept (t' := s1.toks) fun b o e => Heap.get?_push_of_some _ e, turn_list a _, ⟨_, Heap.get?_push_size _ rfl, rfl, rfl⟩, fun b hb => ?_, q⟩
  have e : b = s1.heap.objs.size := by simpa using hb
  subst e
  exact I1.fpOk (Nat.le_refl _) (I1.hok.fresh (Nat.le_refl _))
theorem pi_tup {l : Expr} {tl : TE} (hl : PE X l tl) : PI X tg l (iTup X.K tl) := by
  intro pins s σ H R I h
  refine thn (hl pins s σ H _ I h) fun v s1 ⟨x, H1, I1, r1, q1⟩ => ?_
  obtain ⟨a, e, ⟨xs, hq⟩, q⟩ := q1
  subst e
  cases r1
  obtain ⟨its, rv, p, hz⟩ := I1.tuple hq
  refine wpAny_pyIter_tuple (show s1.heap.IsTuple a its.toArray from p) ?_
  refine ⟨s1.heap.objs.size, [s1.heap.objs.size], _, _, H1, rfl, I1.kept (t' := s1.toks) fun b o e => Heap.get?_push_of_some _ e, turn_tuple a _, ⟨_, Heap.get?_push_size _ rfl, rfl, rfl⟩, fun b hb => ?_, q⟩
  have e : b = s1.heap.objs.size := by simpa using hb
  subst e
  exact I1.fpOk (Nat.le_refl _) (I1.hok.fresh (Nat.le_refl _))
/-- a range object just made, walked -/
theorem range_it {pins : List (Addr × Obj)} {σ : St} {H : Hp} {s : Shared} {R : It → Hp → Prop} {E : Value → Shared → Prop} {lo hi : Int} {t u v : Tok} {tk : Nat} (I : Inv X pins σ H s) (h1 : -(2 ^ 62) ≤ lo) (h2 : lo < 2 ^ 62) (h3 : -(2 ^ 62) ≤ hi) (h4 : hi < 2 ^ 62)
    (q : R (Itr lo (hi - lo).toNat) H) : wpAny (model X.prog X.w) X.A (pyIter (.ref s.heap.objs.size)) (PIE X pins σ tg R) E { s with heap := s.heap.push { cls := .type "range", data := .fields #[.int lo t, .int hi u, .int 1 v] }, toks := tk } := by
  refine wpAny_pyIter_range (IsRange.new ..) (small_one h1 h2 h3 h4) ?_
  have I1 : Inv X pins σ H { s with heap := s.heap.push { cls := .type "range", data := .fields #[.int lo t, .int hi u, .int 1 v] }, toks := tk } := I.kept fun b o e => Heap.get?_push_of_some _ e
  refine ⟨(s.heap.push { cls := .type "range", data := .fields #[.int lo t, .int hi u, .int 1 v] }).objs.size, [(s.heap.push { cls := .type "range", data := .fields #[.int lo t, .int hi u, .int 1 v] }).objs.size], _, _, H, rfl,
    I1.kept (t' := tk) fun b o e => Heap.get?_push_of_some _ e, turn_range _ lo (hi - lo).toNat, ?_, fun b hb => ?_, q⟩
  · have e1 : lo + ((0 : Nat) : Int) * 1 = lo := by simp
    have e2 : (((hi - lo).toNat : Nat) : Int) - ((0 : Nat) : Int) = Builtin.Range.rangeSize lo hi 1 := by rw [rangeSize_one]; split <;> omega
    show IsRangeIter _ _ (lo + ((0 : Nat) : Int) * 1) ((((hi - lo).toNat : Nat) : Int) - ((0 : Nat) : Int)) 1
    rw [e1, e2]
    exact Heap.get?_push_size _ rfl
  · have e : b = (s.heap.push { cls := .type "range", data := .fields #[.int lo t, .int hi u, .int 1 v] }).objs.size := by simpa using hb
    subst e
    exact I1.fpOk (Nat.le_refl _) (I1.hok.fresh (Nat.le_refl _))
def iRng1 (ta : TA) : TI := fun σ H R => ta σ H fun vs H1 => ∃ j : Int, vs = [.int j] ∧ -(2 ^ 62) ≤ j ∧ j < 2 ^ 62 ∧ R (Itr 0 j.toNat) H1
def iRng2 (ta : TA) : TI := fun σ H R => ta σ H fun vs H1 => ∃ i j : Int, vs = [.int i, .int j] ∧ (-(2 ^ 62) ≤ i ∧ i < 2 ^ 62 ∧ -(2 ^ 62) ≤ j ∧ j < 2 ^ 62) ∧ R (Itr i (j - i).toNat) H1
theorem pi_range1 {a : Expr} {ta : TA} {p pos : Pos} (hg : Gl X "range") (hm : X.mg "range" = none) (ha : PA X [a] ta) (hs : starEach [a] X.env = [(false, eval a X.env)] := by rfl) : PI X tg (.Call (.Name "range" p) [a] [] pos) (iRng1 ta) := by
  intro pins s σ H R I h
  refine Call_ (ld_blt I hg hm boot_range (PyProof.Rows.callWith_type1 (thn (ha pos pins s σ H _ I h) fun us s1 ⟨vs, H1, I1, r1, q1⟩ => ?_) hs rfl))
  obtain ⟨j, e, q1, q2, q⟩ := q1
  subst e
  cases r1 with
  | cons r rr =>
    cases rr
    obtain ⟨t, rfl⟩ := r
    exact call_range_1 (range_it I1 (by omega) (by omega) q1 q2 (by simpa using q))
theorem pi_range2 {a b : Expr} {ta : TA} {p pos : Pos} (hg : Gl X "range") (hm : X.mg "range" = none) (ha : PA X [a, b] ta) (hs : starEach [a, b] X.env = [(false, eval a X.env), (false, eval b X.env)] := by rfl) (hs2 : starEach [b] X.env = [(false, eval b X.env)] := by rfl) :
    PI X tg (.Call (.Name "range" p) [a, b] [] pos) (iRng2 ta) := by
  intro pins s σ H R I h
  refine Call_ (ld_blt I hg hm boot_range (PyProof.Rows.callWith_type1 (thn (ha pos pins s σ H _ I h) fun us s1 ⟨vs, H1, I1, r1, q1⟩ => ?_) (by rw [hs, hs2]) (by rw [hs2]; rfl)))
  obtain ⟨i, j, e, ⟨q1, q2, q3, q4⟩, q⟩ := q1
  subst e
  cases r1 with
  | cons r rr =>
    cases rr with
    | cons r' rr =>
      cases rr
      obtain ⟨t, rfl⟩ := r
      obtain ⟨t', rfl⟩ := r'
      exact call_range_2 (range_it I1 q1 q2 q3 q4 q)

/-! ### for -/
/-- W: the invariant by the turn and a measure; N: what the body is to reach -/
def tFor (wi : TI) (g : TG) (tb : TS) : TS := fun D σ H => wi σ H fun J H1 => ∃ W : Nat → Nat → St → Hp → Prop, (∃ m, W 0 m σ H1) ∧ ∀ i m σ H, W i m σ H →
  (J.stop i H ∧ D.nx σ H) ∨ (J.go i H ∧ ∃ N : St → Hp → Prop, (∀ σ' H', N σ' H' → ∃ m', m' < m ∧ W (i + 1) m' σ' H') ∧ ∀ x H', J.yld i H x H' → g x σ H' fun σ2 H2 => tb { D with nx := N, ct := N, bk := D.nx } σ2 H2)
/-- the records at fp as they stand -/
def pinsAt (fp : List Addr) (h : Heap) : List (Addr × Obj) := fp.filterMap fun b => (h.get? b).map fun o => (b, o)
theorem mem_pinsAt {fp : List Addr} {h : Heap} {b : Addr} {o : Obj} (hb : b ∈ fp) (e : h.get? b = some o) : (b, o) ∈ pinsAt fp h := List.mem_filterMap.mpr ⟨b, hb, by rw [e]; rfl⟩
theorem of_pinsAt {fp : List Addr} {h : Heap} {p : Addr × Obj} (hp : p ∈ pinsAt fp h) : p.1 ∈ fp ∧ h.get? p.1 = some p.2 := by
  obtain ⟨b, hb, e⟩ := List.mem_filterMap.mp hp
  cases q : h.get? b with
  | none => rw [q] at e; cases e
  | some o =>
    rw [q] at e
    have e' : (b, o) = p := Option.some.inj e
    subst e'
    exact ⟨hb, q⟩
theorem Inv.pinned {pins : List (Addr × Obj)} {σ : St} {H : Hp} {s : Shared} {fp : List Addr} (I : Inv X pins σ H s) (hf : ∀ b ∈ fp, FpOk X pins H b) (ho : ∀ b ∈ fp, ∃ o, s.heap.get? b = some o ∧ ∀ v, o.data ≠ .cell v) : Inv X (pins ++ pinsAt fp s.heap) σ H s :=
  I.pins_of fun p hp => (List.mem_append.mp hp).elim (fun z => I.pin p (List.mem_append_right _ z)) fun z => by
    obtain ⟨hb, e⟩ := of_pinsAt z
    obtain ⟨f0, f1, f2, _⟩ := hf p.1 hb
    obtain ⟨o, e', d⟩ := ho p.1 hb
    rw [e] at e'; cases e'
    exact ⟨e, f0, f1, f2, d⟩
theorem Inv.unpinned {pins pl : List (Addr × Obj)} {σ : St} {H : Hp} {s : Shared} (I : Inv X (pins ++ pl) σ H s) : Inv X pins σ H s := I.pins_of fun p hp => I.pin p (List.mem_append_right _ (List.mem_append_left _ hp))
theorem ps_for {iter : Expr} {body : List Stmt} {wi : TI} {g : TG} {tb : TS} {pos : Pos} (hp : PassesOwn (model X.prog X.w) X.A X.env X.xe) (hc : X.calm = true) (hi : PI X tg iter wi) (hg : PG X tg g) (hb : PSs X body tb)
    (hs : ∀ x, foldedSetIterable iter X.env x = pure x := by intro _; rfl) : PS X (.For tg iter body [] pos) (tFor wi g tb) := by
  intro pins s σ H D I h
  refine wpAny_For (thn (hi pins s σ H _ I h) fun v s1 h1 => thn h1 fun itv s2 h2 => ?_) hs
  obtain ⟨it, fp, tn, J, H2, e, I2, T, st2, f2, W, ⟨m0, w0⟩, turn⟩ := h2
  subst e
  -- what stays true of the iterator's objects through the loop
  have stat : ∀ {H' : Hp}, (∀ b ∈ fp, H' b = none) → ∀ b ∈ fp, FpOk X pins H' b := fun hn b hb => ⟨hn b hb, (f2 b hb).2⟩
  refine codeAny_forLoop_any (fun n s' => ∃ i σ' H', Inv X pins σ' H' s' ∧ tn i s'.heap ∧ (∀ b ∈ fp, H' b = none) ∧ W i n σ' H') ?_ m0 ⟨0, σ, H2, I2, st2, fun b hb => (f2 b hb).1, w0⟩
  rintro n s3 ⟨i, σ3, H3, I3, st3, fr3, w3⟩
  rcases turn i n σ3 H3 w3 with ⟨stop, qn⟩ | ⟨go, N, hN, step⟩
  · refine wpAny_passesOwn hp (thn (T.done X rfl rfl rfl hc i pins s3 σ3 H3 X.xe I3 (stat fr3) st3 stop) fun r s4 ⟨hr, I4⟩ => ?_)
    subst hr
    exact wpAny_execs_nil ⟨σ3, H3, I4, qn⟩
  · refine wpAny_passesOwn hp (thn (T.item X rfl rfl rfl hc i pins s3 σ3 H3 X.xe I3 (stat fr3) st3 go) fun r s4 ⟨u, hr, h4⟩ => ?_)
    subst hr
    refine wpAny_passesOwn hp (thn h4 fun _ s5 ⟨x, H5, I5, r5, y5, st5, fr5⟩ => ?_)
    have I5' := I5.pinned (stat fr5) (T.obj _ _ st5)
    refine wpAny_passesOwn hp (thn (hg _ s5 σ3 H5 x u _ I5' r5 (step x H5 y5)) fun _ s6 ⟨σ6, H6, I6, q6⟩ => ?_)
    refine wpAny_passesOwn hp (thn (hb _ s6 σ6 H6 _ I6 q6) fun f s7 q7 => ?_)
    have again : ∀ {σ7 : St} {H7 : Hp}, Inv X (pins ++ pinsAt fp s5.heap) σ7 H7 s7 → N σ7 H7 → ∃ m, m < n ∧ ∃ i σ' H', Inv X pins σ' H' s7 ∧ tn i s7.heap ∧ (∀ b ∈ fp, H' b = none) ∧ W i m σ' H' := fun {σ7 H7} I7 n7 => by
      obtain ⟨m', hm, w7⟩ := hN σ7 H7 n7
      refine ⟨m', hm, i + 1, σ7, H7, I7.unpinned, T.keep _ _ _ st5 fun b hb o e => (I7.pin (b, o) (List.mem_append_right _ (List.mem_append_right _ (mem_pinsAt hb e)))).1, fun b hb => ?_, w7⟩
      obtain ⟨o, e, d⟩ := T.obj _ _ st5 b hb
      exact (I7.pin (b, o) (List.mem_append_right _ (List.mem_append_right _ (mem_pinsAt hb e)))).2.1
    cases f with
    | next => obtain ⟨σ7, H7, I7, n7⟩ := q7; exact again I7 n7
    | cont => obtain ⟨σ7, H7, I7, n7⟩ := q7; exact again I7 n7
    | brk => obtain ⟨σ7, H7, I7, q7⟩ := q7; exact ⟨σ7, H7, I7.unpinned, q7⟩
    | ret v => obtain ⟨x7, σ7, H7, I7, r7, q7⟩ := q7; exact ⟨x7, σ7, H7, I7.unpinned, r7, q7⟩
end

/-! ### the forms one uses -/
/-- over a list that the body leaves as it is -/
theorem for_list {K : PySem.W.Frag} {a : Addr} {xs : List V} {g : TG} {tb : TS} {D : Ends} {σ : St} {H : Hp} (Pv : Nat → St → Hp → Prop) (h0 : Pv 0 σ H) (hl : ∀ i σ H, i ≤ xs.length → Pv i σ H → SqL K H a xs)
    (hs : ∀ i x σ H, xs[i]? = some x → Pv i σ H → g x σ H fun σ2 H2 => tb { D with nx := Pv (i + 1), ct := Pv (i + 1), bk := D.nx } σ2 H2) (hd : ∀ σ H, Pv xs.length σ H → D.nx σ H) :
    ∃ W : Nat → Nat → St → Hp → Prop, (∃ m, W 0 m σ H) ∧ ∀ i m σ H, W i m σ H →
      ((Itl K a).stop i H ∧ D.nx σ H) ∨ ((Itl K a).go i H ∧ ∃ N : St → Hp → Prop, (∀ σ' H', N σ' H' → ∃ m', m' < m ∧ W (i + 1) m' σ' H') ∧ ∀ x H', (Itl K a).yld i H x H' → g x σ H' fun σ2 H2 => tb { D with nx := N, ct := N, bk := D.nx } σ2 H2) := by
  refine ⟨fun i m σ H => m = xs.length - i ∧ i ≤ xs.length ∧ Pv i σ H, ⟨xs.length, by simp, Nat.zero_le _, h0⟩, ?_⟩
  rintro i m σ H ⟨rfl, hi, p⟩
  have q := hl i σ H hi p
  by_cases hlt : i < xs.length
  · refine .inr ⟨⟨xs, xs[i], q, by simp [hlt]⟩, Pv (i + 1), fun σ' H' p' => ⟨xs.length - (i + 1), by omega, rfl, hlt, p'⟩, fun x H' y => ?_⟩
    obtain ⟨e, y⟩ := y
    subst e
    exact hs i x σ _ (y xs q) p
  · have e : i = xs.length := by omega
    subst e
    exact .inl ⟨⟨xs, q, Nat.le_refl _⟩, hd σ H p⟩
theorem for_tup {K : PySem.W.Frag} {a : Addr} {xs : List V} {g : TG} {tb : TS} {D : Ends} {σ : St} {H : Hp} (Pv : Nat → St → Hp → Prop) (h0 : Pv 0 σ H) (hl : ∀ i σ H, i ≤ xs.length → Pv i σ H → SqT K H a xs)
    (hs : ∀ i x σ H, xs[i]? = some x → Pv i σ H → g x σ H fun σ2 H2 => tb { D with nx := Pv (i + 1), ct := Pv (i + 1), bk := D.nx } σ2 H2) (hd : ∀ σ H, Pv xs.length σ H → D.nx σ H) :
    ∃ W : Nat → Nat → St → Hp → Prop, (∃ m, W 0 m σ H) ∧ ∀ i m σ H, W i m σ H →
      ((Itt K a).stop i H ∧ D.nx σ H) ∨ ((Itt K a).go i H ∧ ∃ N : St → Hp → Prop, (∀ σ' H', N σ' H' → ∃ m', m' < m ∧ W (i + 1) m' σ' H') ∧ ∀ x H', (Itt K a).yld i H x H' → g x σ H' fun σ2 H2 => tb { D with nx := N, ct := N, bk := D.nx } σ2 H2) := by
  refine ⟨fun i m σ H => m = xs.length - i ∧ i ≤ xs.length ∧ Pv i σ H, ⟨xs.length, by simp, Nat.zero_le _, h0⟩, ?_⟩
  rintro i m σ H ⟨rfl, hi, p⟩
  have q := hl i σ H hi p
  by_cases hlt : i < xs.length
  · refine .inr ⟨⟨xs, xs[i], q, by simp [hlt]⟩, Pv (i + 1), fun σ' H' p' => ⟨xs.length - (i + 1), by omega, rfl, hlt, p'⟩, fun x H' y => ?_⟩
    obtain ⟨e, y⟩ := y
    subst e
    exact hs i x σ _ (y xs q) p
  · have e : i = xs.length := by omega
    subst e
    exact .inl ⟨⟨xs, q, Nat.le_refl _⟩, hd σ H p⟩
theorem for_range {lo : Int} {n : Nat} {g : TG} {tb : TS} {D : Ends} {σ : St} {H : Hp} (Pv : Nat → St → Hp → Prop) (h0 : Pv 0 σ H)
    (hs : ∀ i σ H, i < n → Pv i σ H → g (.int (lo + i)) σ H fun σ2 H2 => tb { D with nx := Pv (i + 1), ct := Pv (i + 1), bk := D.nx } σ2 H2) (hd : ∀ σ H, Pv n σ H → D.nx σ H) :
    ∃ W : Nat → Nat → St → Hp → Prop, (∃ m, W 0 m σ H) ∧ ∀ i m σ H, W i m σ H →
      ((Itr lo n).stop i H ∧ D.nx σ H) ∨ ((Itr lo n).go i H ∧ ∃ N : St → Hp → Prop, (∀ σ' H', N σ' H' → ∃ m', m' < m ∧ W (i + 1) m' σ' H') ∧ ∀ x H', (Itr lo n).yld i H x H' → g x σ H' fun σ2 H2 => tb { D with nx := N, ct := N, bk := D.nx } σ2 H2) := by
  refine ⟨fun i m σ H => m = n - i ∧ i ≤ n ∧ Pv i σ H, ⟨n, by simp, Nat.zero_le _, h0⟩, ?_⟩
  rintro i m σ H ⟨rfl, hi, p⟩
  by_cases hlt : i < n
  · refine .inr ⟨hlt, Pv (i + 1), fun σ' H' p' => ⟨n - (i + 1), by omega, rfl, hlt, p'⟩, fun x H' y => ?_⟩
    obtain ⟨e, y⟩ := y
    subst e y
    exact hs i σ _ hlt p
  · have e : i = n := by omega
    subst e
    exact .inl ⟨Nat.le_refl _, hd σ H p⟩
/-- while, by a word and a measure of the state -/
theorem while_by {c : TT} {tb : TS} {D : Ends} {σ : St} {H : Hp} (Pv : St → Hp → Prop) (μ : St → Hp → Nat) (h0 : Pv σ H)
    (hs : ∀ σ H, Pv σ H → c σ H fun b H1 => if b = true then tb { D with nx := fun σ' H' => Pv σ' H' ∧ μ σ' H' < μ σ H, ct := fun σ' H' => Pv σ' H' ∧ μ σ' H' < μ σ H, bk := D.nx } σ H1 else D.nx σ H1)
    (mono : ∀ σ H Q Q', (∀ b H1, Q b H1 → Q' b H1) → c σ H Q → c σ H Q') : tWhile c tb D σ H := by
  refine ⟨fun m σ H => m = μ σ H ∧ Pv σ H, ⟨_, rfl, h0⟩, ?_⟩
  rintro m σ H ⟨rfl, p⟩
  refine mono σ H _ _ (fun b H1 q => ?_) (hs σ H p)
  cases b with
  | true => exact ⟨_, fun σ' H' ⟨p', l⟩ => ⟨_, l, rfl, p'⟩, q⟩
  | false => exact q
end L2

namespace L2
open PySem PySem.Spec PyProof.Rows

abbrev R2 := V → V → Hp → VK → Prop
/-- a two-place operation on values: f is binaryOp op, inplaceOp op or compareOp op -/
def OpR (X : Cx) (f : Value → Value → Sem Value) (r : R2) : Prop :=
  ∀ (pins : List (Addr × Obj)) (s : Shared) (σ : St) (H : Hp) (x y : V) (v u : Value) (Q : VK), Inv X pins σ H s → RelV x v → RelV y u → r x y H Q →
    wpAny (model X.prog X.w) X.A (f v u) (EP X pins σ Q) X.xe s
/-- a one-place operation -/
def UnR (X : Cx) (f : Value → Sem Value) (r : V → Hp → VK → Prop) : Prop :=
  ∀ (pins : List (Addr × Obj)) (s : Shared) (σ : St) (H : Hp) (x : V) (v : Value) (Q : VK), Inv X pins σ H s → RelV x v → r x H Q →
    wpAny (model X.prog X.w) X.A (f v) (EP X pins σ Q) X.xe s
/-- a call of a value that is known (a builtin, a type) with values -/
def CallR (X : Cx) (f : Value) (r : List V → Hp → VK → Prop) : Prop :=
  ∀ (pins : List (Addr × Obj)) (s : Shared) (σ : St) (H : Hp) (xs : List V) (us : List Value) (Q : VK), Inv X pins σ H s → Vals xs us → r xs H Q →
    wpAny (model X.prog X.w) X.A (call f us) (EP X pins σ Q) X.xe s
/-- a value's truth -/
def TruR (X : Cx) (r : V → Hp → (Bool → Hp → Prop) → Prop) : Prop :=
  ∀ (pins : List (Addr × Obj)) (s : Shared) (σ : St) (H : Hp) (x : V) (v : Value) (Q : Bool → Hp → Prop), Inv X pins σ H s → RelV x v → r x H Q →
    wpAny (model X.prog X.w) X.A (truthy v) (TP X pins σ Q) X.xe s

def tOp (r : R2) (ta tb : TE) : TE := fun σ H Q => ta σ H fun x H1 => tb σ H1 fun y H2 => r x y H2 Q
def tUn (r : V → Hp → VK → Prop) (ta : TE) : TE := fun σ H Q => ta σ H fun x H1 => r x H1 Q
/-- ints in, under C, and a value out -/
def rI (C : Int → Int → Prop) (g : Int → Int → V) : R2 := fun x y H Q => ∃ i j, x = .int i ∧ y = .int j ∧ C i j ∧ Q (g i j) H
def rI0 (g : Int → Int → V) : R2 := fun x y H Q => ∃ i j, x = .int i ∧ y = .int j ∧ Q (g i j) H
def rU (g : Int → V) : V → Hp → VK → Prop := fun x H Q => ∃ i, x = .int i ∧ Q (g i) H

section
variable {X : Cx} {a b c : Expr} {ta tb tc : TE} {pos : Pos}

theorem binT (ha : PE X a ta) (hb : PE X b tb) {pins : List (Addr × Obj)} {s : Shared} {σ : St} {H : Hp} {R : V → V → Hp → Prop} (I : Inv X pins σ H s)
    (h : ta σ H fun x H1 => tb σ H1 fun y H2 => R x y H2) {Q : Value → Shared → Prop} {f : Value → Value → Sem Value}
    (hf : ∀ v u s2 x y H2, Inv X pins σ H2 s2 → RelV x v → RelV y u → R x y H2 → wpAny (model X.prog X.w) X.A (f v u) Q X.xe s2) :
    wpAny (model X.prog X.w) X.A (eval a X.env) (fun v s₁ => wpAny (model X.prog X.w) X.A (eval b X.env) (fun u s₂ => wpAny (model X.prog X.w) X.A (f v u) Q X.xe s₂) X.xe s₁) X.xe s := by
  refine thn (ha pins s σ H _ I h) fun v s1 ⟨x, H1, I1, r1, q1⟩ => ?_
  refine thn (hb pins s1 σ H1 _ I1 q1) fun u s2 ⟨y, H2, I2, r2, q2⟩ => ?_
  exact hf v u s2 x y H2 I2 r1 r2 q2

theorem pe_op {op : Operator} {r : R2} (ho : OpR X (binaryOp op) r) (ha : PE X a ta) (hb : PE X b tb) : PE X (.BinOp a op b pos) (tOp r ta tb) := by
  intro pins s σ H Q I h
  exact wpAny_BinOp (binT ha hb I h fun v u s2 x y H2 I2 rx ry q => ho pins s2 σ H2 x y v u Q I2 rx ry q)
theorem pe_un {op : UnaryOp} {r : V → Hp → VK → Prop} (ho : UnR X (unaryOp op) r) (ha : PE X a ta) : PE X (.UnaryOp op a pos) (tUn r ta) := by
  intro pins s σ H Q I h
  exact UnaryOp_ (thn (ha pins s σ H _ I h) fun v s1 ⟨x, H1, I1, r1, q1⟩ => ho pins s1 σ H1 x v Q I1 r1 q1)
/-- a op= e at a name: the name's slot i -/
theorem augR {op : Operator} {r : R2} (ho : OpR X (inplaceOp op) r) {pins : List (Addr × Obj)} {s : Shared} {σ : St} {H : Hp} {x y : V} {v u : Value} {Q : VK} (I : Inv X pins σ H s)
    (rx : RelV x v) (ry : RelV y u) (q : r x y H Q) : wpAny (model X.prog X.w) X.A (inplaceOp op v u) (EP X pins σ Q) X.xe s := ho pins s σ H x y v u Q I rx ry q

/-! ### ints -/
theorem opI {f : Value → Value → Sem Value} {C : Int → Int → Prop} {g : Int → Int → Int}
    (rule : ∀ (i j : Int) (t u : Tok) (s : Shared) (Q : Value → Shared → Prop) (E : Value → Shared → Prop), C i j → Q (.int (g i j) s.toks) { s with toks := s.toks + 1 } → wpAny (model X.prog X.w) X.A (f (.int i t) (.int j u)) Q E s) :
    OpR X f (rI C fun i j => .int (g i j)) := by
  intro pins s σ H x y v u Q I rx ry h
  obtain ⟨i, j, rfl, rfl, hc, q⟩ := h
  obtain ⟨t, rfl⟩ := rx
  obtain ⟨t', rfl⟩ := ry
  exact rule i j t t' s _ _ hc ⟨.int (g i j), H, I.tok _, ⟨_, rfl⟩, q⟩
theorem opI0 {f : Value → Value → Sem Value} {g : Int → Int → Int}
    (rule : ∀ (i j : Int) (t u : Tok) (s : Shared) (Q : Value → Shared → Prop) (E : Value → Shared → Prop), Q (.int (g i j) s.toks) { s with toks := s.toks + 1 } → wpAny (model X.prog X.w) X.A (f (.int i t) (.int j u)) Q E s) :
    OpR X f (rI0 fun i j => .int (g i j)) := by
  intro pins s σ H x y v u Q I rx ry h
  obtain ⟨i, j, rfl, rfl, q⟩ := h
  obtain ⟨t, rfl⟩ := rx
  obtain ⟨t', rfl⟩ := ry
  exact rule i j t t' s _ _ ⟨.int (g i j), H, I.tok _, ⟨_, rfl⟩, q⟩
theorem opB0 {f : Value → Value → Sem Value} {g : Int → Int → Bool}
    (rule : ∀ (i j : Int) (t u : Tok) (s : Shared) (Q : Value → Shared → Prop) (E : Value → Shared → Prop), Q (.bool (g i j)) s → wpAny (model X.prog X.w) X.A (f (.int i t) (.int j u)) Q E s) :
    OpR X f (rI0 fun i j => .bl (g i j)) := by
  intro pins s σ H x y v u Q I rx ry h
  obtain ⟨i, j, rfl, rfl, q⟩ := h
  obtain ⟨t, rfl⟩ := rx
  obtain ⟨t', rfl⟩ := ry
  exact rule i j t t' s _ _ ⟨.bl (g i j), H, I, rfl, q⟩

def CDiv (i j : Int) : Prop := 0 < j ∧ j < 1073741824
def CDivN (i j : Int) : Prop := j ≠ 0 ∧ j.natAbs < 1073741824
def CPow (i j : Int) : Prop := 0 ≤ j ∧ j ≤ 1000000 ∧ i.natAbs < 2 ^ 64
def CMul (i j : Int) : Prop := (-(2 ^ 64) < i ∧ i < 2 ^ 64) ∨ (-(2 ^ 64) < j ∧ j < 2 ^ 64)
theorem CMul.ok {i j : Int} (h : CMul i j) : IntMulOk i j := by
  rcases h with ⟨h1, h2⟩ | ⟨h1, h2⟩
  · exact .of_left (intBits_le_64 h1 h2)
  · exact .of_right (intBits_le_64 h1 h2)
theorem two_pow_nn (k : Nat) : (0 : Int) ≤ 2 ^ k := by
  rw [two_pow_cast]
  exact Int.natCast_nonneg _

theorem op_add : OpR X (binaryOp .Add) (rI0 fun i j => .int (i + j)) := opI0 fun _ _ _ _ _ _ _ q => add_int q
theorem op_sub : OpR X (binaryOp .Sub) (rI0 fun i j => .int (i - j)) := opI0 fun _ _ _ _ _ _ _ q => sub_int q
theorem op_mul : OpR X (binaryOp .Mult) (rI CMul fun i j => .int (i * j)) := opI fun _ _ _ _ _ _ _ hc q => mul_int q hc.ok
/-- // by a positive divisor -/
theorem op_fdiv : OpR X (binaryOp .FloorDiv) (rI CDiv fun i j => .int (i / j)) := opI fun i j _ _ _ _ _ hc q => by
  have h1 : (0 : Int) < j := hc.1
  have h2 : j < 1073741824 := hc.2
  exact floordiv_int (by omega) (by rw [Int.fdiv_eq_ediv_of_nonneg i (by omega)]; exact q) (.inl (PyProof.noPylong_small (by omega)))
theorem op_fdivN : OpR X (binaryOp .FloorDiv) (rI CDivN fun i j => .int (i.fdiv j)) := opI fun _ _ _ _ _ _ _ hc q => floordiv_int hc.1 q (.inl (PyProof.noPylong_small hc.2))
/-- % by a positive divisor of any size -/
theorem op_mod : OpR X (binaryOp .Mod) (rI (fun _ j => 0 < j) fun i j => .int (i % j)) := opI fun i j _ _ _ _ _ hc q => by
  have h1 : (0 : Int) < j := hc
  exact mod_int' (by omega) (by rw [Int.fmod_eq_emod_of_nonneg i (by omega)]; exact q)
theorem op_modN : OpR X (binaryOp .Mod) (rI (fun _ j => j ≠ 0) fun i j => .int (i.fmod j)) := opI fun _ _ _ _ _ _ _ hc q => mod_int' hc q
theorem op_pow : OpR X (binaryOp .Pow) (rI CPow fun i j => .int (i ^ j.toNat)) := opI fun _ _ _ _ _ _ _ hc q => pow_int_small hc.1 hc.2.1 hc.2.2 q
theorem op_shl : OpR X (binaryOp .LShift) (rI CPow fun i j => .int (i * 2 ^ j.toNat)) := opI fun _ _ _ _ _ _ _ hc q => lshift_int_small hc.1 hc.2.1 hc.2.2 q
theorem op_shr : OpR X (binaryOp .RShift) (rI (fun _ j => 0 ≤ j) fun i j => .int (i / 2 ^ j.toNat)) := opI fun i j _ _ _ _ _ hc q =>
  rshift_int hc (by rw [Int.fdiv_eq_ediv_of_nonneg i (two_pow_nn _)]; exact q)
theorem op_and : OpR X (binaryOp .BitAnd) (rI0 fun i j => .int (Builtin.bitAnd i j)) := opI0 fun _ _ _ _ _ _ _ q => and_int q
theorem op_or : OpR X (binaryOp .BitOr) (rI0 fun i j => .int (Builtin.bitOr i j)) := opI0 fun _ _ _ _ _ _ _ q => or_int q
theorem op_xor : OpR X (binaryOp .BitXor) (rI0 fun i j => .int (Builtin.bitXor i j)) := opI0 fun _ _ _ _ _ _ _ q => xor_int q

theorem iop_add : OpR X (inplaceOp .Add) (rI0 fun i j => .int (i + j)) := opI0 fun _ _ _ _ _ _ _ q => iadd_int q
theorem iop_sub : OpR X (inplaceOp .Sub) (rI0 fun i j => .int (i - j)) := opI0 fun _ _ _ _ _ _ _ q => isub_int q
theorem iop_mul : OpR X (inplaceOp .Mult) (rI CMul fun i j => .int (i * j)) := opI fun _ _ _ _ _ _ _ hc q => imul_int q hc.ok
theorem iop_fdiv : OpR X (inplaceOp .FloorDiv) (rI CDiv fun i j => .int (i / j)) := opI fun i j _ _ _ _ _ hc q => by
  have h1 : (0 : Int) < j := hc.1
  have h2 : j < 1073741824 := hc.2
  exact ifloordiv_int (by omega) (by rw [Int.fdiv_eq_ediv_of_nonneg i (by omega)]; exact q) (.inl (PyProof.noPylong_small (by omega)))
theorem iop_mod : OpR X (inplaceOp .Mod) (rI (fun _ j => 0 < j) fun i j => .int (i % j)) := opI fun i j _ _ _ _ _ hc q => by
  have h1 : (0 : Int) < j := hc
  exact imod_int (by omega) (by rw [Int.fmod_eq_emod_of_nonneg i (by omega)]; exact q)
theorem iop_shl : OpR X (inplaceOp .LShift) (rI CPow fun i j => .int (i * 2 ^ j.toNat)) := opI fun _ _ _ _ _ _ _ hc q => ilshift_int_small hc.1 hc.2.1 hc.2.2 q
theorem iop_shr : OpR X (inplaceOp .RShift) (rI (fun _ j => 0 ≤ j) fun i j => .int (i / 2 ^ j.toNat)) := opI fun i j _ _ _ _ _ hc q =>
  irshift_int hc (by rw [Int.fdiv_eq_ediv_of_nonneg i (two_pow_nn _)]; exact q)
theorem iop_and : OpR X (inplaceOp .BitAnd) (rI0 fun i j => .int (Builtin.bitAnd i j)) := opI0 fun _ _ _ _ _ _ _ q => iand_int q
theorem iop_or : OpR X (inplaceOp .BitOr) (rI0 fun i j => .int (Builtin.bitOr i j)) := opI0 fun _ _ _ _ _ _ _ q => ior_int q
theorem iop_xor : OpR X (inplaceOp .BitXor) (rI0 fun i j => .int (Builtin.bitXor i j)) := opI0 fun _ _ _ _ _ _ _ q => ixor_int q

theorem unI {f : Value → Sem Value} {g : Int → Int}
    (rule : ∀ (i : Int) (t : Tok) (s : Shared) (Q : Value → Shared → Prop) (E : Value → Shared → Prop), Q (.int (g i) s.toks) { s with toks := s.toks + 1 } → wpAny (model X.prog X.w) X.A (f (.int i t)) Q E s) :
    UnR X f (rU fun i => .int (g i)) := by
  intro pins s σ H x v Q I rx h
  obtain ⟨i, rfl, q⟩ := h
  obtain ⟨t, rfl⟩ := rx
  exact rule i t s _ _ ⟨.int (g i), H, I.tok _, ⟨_, rfl⟩, q⟩
theorem un_neg : UnR X (unaryOp .USub) (rU fun i => .int (-i)) := unI fun _ _ _ _ _ q => neg_int q
theorem un_inv : UnR X (unaryOp .Invert) (rU fun i => .int (Builtin.bitNot i)) := unI fun _ _ _ _ _ q => invert_int q

/-! ### bools among ints: n += (a < b) -/
theorem op_add_ib : OpR X (binaryOp .Add) (fun x y H Q => ∃ i k, x = .int i ∧ y = .bl k ∧ Q (.int (i + b2i k)) H) := by
  intro pins s σ H x y v u Q I rx ry h
  obtain ⟨i, k, rfl, rfl, q⟩ := h
  obtain ⟨t, rfl⟩ := rx
  cases ry
  exact add_int_bool ⟨.int (i + b2i k), H, I.tok _, ⟨_, rfl⟩, q⟩
end

/-! ### comparisons -/
/-- the scalars that == tells apart as data does -/
def scal : V → V → Bool
  | .non, .non => true | .non, .int _ => true | .int _, .non => true | .non, .bl _ => true | .bl _, .non => true | .non, .str _ => true | .str _, .non => true
  | .int _, .int _ => true | .bl _, .bl _ => true | .str _, .str _ => true | .byt _, .byt _ => true
  | .int _, .str _ => true | .str _, .int _ => true | .bl _, .str _ => true | .str _, .bl _ => true
  | _, _ => false
def rEq : R2 := fun x y H Q => scal x y = true ∧ Q (.bl (decide (x = y))) H
def rNe : R2 := fun x y H Q => scal x y = true ∧ Q (.bl (!decide (x = y))) H

theorem dec_int {i j : Int} : decide (V.int i = V.int j) = (i == j) := by
  rw [Bool.eq_iff_iff]
  simp
theorem dec_bl {i j : Bool} : decide (V.bl i = V.bl j) = (i == j) := by
  rw [Bool.eq_iff_iff]
  simp
theorem dec_str {i j : Str} : decide (V.str i = V.str j) = (i == j) := by
  rw [Bool.eq_iff_iff]
  simp
theorem dec_byt {i j : Array UInt8} : decide (V.byt i = V.byt j) = (i.toList == j.toList) := by
  rw [Bool.eq_iff_iff]
  cases i
  cases j
  simp

section
variable {X : Cx} {a b c : Expr} {ta tb tc : TE} {pos : Pos}
theorem fin_bl {pins : List (Addr × Obj)} {σ : St} {H : Hp} {s : Shared} {Q : VK} {k k' : Bool} (I : Inv X pins σ H s) (q : Q (.bl k) H) (e : k = k') : EP X pins σ Q (.bool k') s := by
  subst e
  exact ⟨.bl k, H, I, rfl, q⟩
theorem op_eq : OpR X (compareOp .Eq) rEq := by
  intro pins s σ H x y v u Q I rx ry h
  obtain ⟨hs, q⟩ := h
  cases x with
  | non =>
    cases rx
    cases y with
    | non => cases ry; exact PySem.EqNone.eq_none_none (fin_bl I q (by simp))
    | bl j => cases ry; exact PySem.EqNone.eq_none_bool (fin_bl I q (by simp))
    | int j => obtain ⟨t', rfl⟩ := ry; exact PySem.EqNone.eq_none_int (fin_bl I q (by simp))
    | str j => obtain ⟨t', rfl⟩ := ry; exact PySem.EqNone.eq_none_str (fin_bl I q (by simp))
    | _ => exact absurd (show false = true from hs) Bool.false_ne_true
  | bl i =>
    cases rx
    cases y with
    | non => cases ry; exact PySem.EqNone.eq_bool_none (fin_bl I q (by simp))
    | bl j => cases ry; exact eq_bool (fin_bl I q dec_bl)
    | str j => obtain ⟨t', rfl⟩ := ry; exact PySem.EqMixed.eq_bool_str (fin_bl I q (by simp))
    | _ => exact absurd (show false = true from hs) Bool.false_ne_true
  | int i =>
    obtain ⟨t, rfl⟩ := rx
    cases y with
    | non => cases ry; exact PySem.EqNone.eq_int_none (fin_bl I q (by simp))
    | int j => obtain ⟨t', rfl⟩ := ry; exact eq_int (fin_bl I q dec_int)
    | str j => obtain ⟨t', rfl⟩ := ry; exact PySem.EqMixed.eq_int_str (fin_bl I q (by simp))
    | _ => exact absurd (show false = true from hs) Bool.false_ne_true
  | str i =>
    obtain ⟨t, rfl⟩ := rx
    cases y with
    | non => cases ry; exact PySem.EqNone.eq_str_none (fin_bl I q (by simp))
    | bl j => cases ry; exact PySem.EqMixed.eq_str_bool (fin_bl I q (by simp))
    | int j => obtain ⟨t', rfl⟩ := ry; exact PySem.EqMixed.eq_str_int (fin_bl I q (by simp))
    | str j => obtain ⟨t', rfl⟩ := ry; exact eq_str (fin_bl I q dec_str)
    | _ => exact absurd (show false = true from hs) Bool.false_ne_true
  | byt i =>
    obtain ⟨t, rfl⟩ := rx
    cases y with
    | byt j => obtain ⟨t', rfl⟩ := ry; exact PySem.W.eq_bytes (fin_bl I q dec_byt)
    | _ => exact absurd (show false = true from hs) Bool.false_ne_true
  | _ => cases y <;> exact absurd (show false = true from hs) Bool.false_ne_true
theorem op_ne : OpR X (compareOp .NotEq) rNe := by
  intro pins s σ H x y v u Q I rx ry h
  obtain ⟨hs, q⟩ := h
  cases x with
  | non =>
    cases rx
    cases y with
    | non => cases ry; exact PySem.EqNone.ne_none_none (fin_bl I q (by simp))
    | bl j => cases ry; exact PySem.EqNone.ne_none_bool (fin_bl I q (by simp))
    | int j => obtain ⟨t', rfl⟩ := ry; exact PySem.EqNone.ne_none_int (fin_bl I q (by simp))
    | str j => obtain ⟨t', rfl⟩ := ry; exact PySem.EqNone.ne_none_str (fin_bl I q (by simp))
    | _ => exact absurd (show false = true from hs) Bool.false_ne_true
  | bl i =>
    cases rx
    cases y with
    | non => cases ry; exact PySem.EqNone.ne_bool_none (fin_bl I q (by simp))
    | bl j => cases ry; exact ne_bool (fin_bl I q (congrArg not dec_bl))
    | str j => obtain ⟨t', rfl⟩ := ry; exact PySem.EqMixed.ne_bool_str (fin_bl I q (by simp))
    | _ => exact absurd (show false = true from hs) Bool.false_ne_true
  | int i =>
    obtain ⟨t, rfl⟩ := rx
    cases y with
    | non => cases ry; exact PySem.EqNone.ne_int_none (fin_bl I q (by simp))
    | int j => obtain ⟨t', rfl⟩ := ry; exact ne_int (fin_bl I q (congrArg not dec_int))
    | str j => obtain ⟨t', rfl⟩ := ry; exact PySem.EqMixed.ne_int_str (fin_bl I q (by simp))
    | _ => exact absurd (show false = true from hs) Bool.false_ne_true
  | str i =>
    obtain ⟨t, rfl⟩ := rx
    cases y with
    | non => cases ry; exact PySem.EqNone.ne_str_none (fin_bl I q (by simp))
    | bl j => cases ry; exact PySem.EqMixed.ne_str_bool (fin_bl I q (by simp))
    | int j => obtain ⟨t', rfl⟩ := ry; exact PySem.EqMixed.ne_str_int (fin_bl I q (by simp))
    | str j => obtain ⟨t', rfl⟩ := ry; exact ne_str (fin_bl I q (congrArg not dec_str))
    | _ => exact absurd (show false = true from hs) Bool.false_ne_true
  | byt i =>
    obtain ⟨t, rfl⟩ := rx
    cases y with
    | byt j => obtain ⟨t', rfl⟩ := ry; exact PySem.W.ne_bytes (fin_bl I q (congrArg not dec_byt))
    | _ => exact absurd (show false = true from hs) Bool.false_ne_true
  | _ => cases y <;> exact absurd (show false = true from hs) Bool.false_ne_true

theorem op_lt : OpR X (compareOp .Lt) (rI0 fun i j => .bl (decide (i < j))) := opB0 fun _ _ _ _ _ _ _ q => lt_int q
theorem op_le : OpR X (compareOp .LtE) (rI0 fun i j => .bl (decide (i ≤ j))) := opB0 fun _ _ _ _ _ _ _ q => le_int q
theorem op_gt : OpR X (compareOp .Gt) (rI0 fun i j => .bl (decide (j < i))) := opB0 fun _ _ _ _ _ _ _ q => gt_int q
theorem op_ge : OpR X (compareOp .GtE) (rI0 fun i j => .bl (decide (j ≤ i))) := opB0 fun _ _ _ _ _ _ _ q => ge_int q
theorem op_lt_str : OpR X (compareOp .Lt) (fun x y H Q => ∃ i j, x = .str i ∧ y = .str j ∧ Q (.bl (decide (i.cps.toList < j.cps.toList))) H) := by
  intro pins s σ H x y v u Q I rx ry h
  obtain ⟨i, j, rfl, rfl, q⟩ := h
  obtain ⟨t, rfl⟩ := rx
  obtain ⟨t', rfl⟩ := ry
  exact lt_str (fin_bl I q rfl)
/-- the one string within the other -/
theorem op_in_str : OpR X (compareOp .In) (fun x y H Q => ∃ i j, x = .str i ∧ y = .str j ∧ Q (.bl (!(Builtin.Str.occurrences j i 0 j.length 1).isEmpty)) H) := by
  intro pins s σ H x y v u Q I rx ry h
  obtain ⟨i, j, rfl, rfl, q⟩ := h
  obtain ⟨t, rfl⟩ := rx
  obtain ⟨t', rfl⟩ := ry
  exact in_str (fin_bl I q rfl)

/-- is None, is not None: the right side a value none -/
theorem op_isN : OpR X (compareOp .Is) (fun x y H Q => y = .non ∧ Q (.bl (decide (x = .non))) H) := by
  intro pins s σ H x y v u Q I rx ry h
  obtain ⟨rfl, q⟩ := h
  cases ry
  refine is_none_gen (fin_bl I q ?_)
  cases x <;> first
    | (cases rx; rfl)
    | (obtain ⟨t, rfl⟩ := rx; rfl)
theorem op_notN : OpR X (compareOp .IsNot) (fun x y H Q => y = .non ∧ Q (.bl (!decide (x = .non))) H) := by
  intro pins s σ H x y v u Q I rx ry h
  obtain ⟨rfl, q⟩ := h
  cases ry
  refine isnot_none_gen (fin_bl I q ?_)
  cases x <;> first
    | (cases rx; rfl)
    | (obtain ⟨t, rfl⟩ := rx; rfl)

theorem op_notin_str : OpR X (compareOp .NotIn) (fun x y H Q => ∃ i j, x = .str i ∧ y = .str j ∧ Q (.bl (!(!(Builtin.Str.occurrences j i 0 j.length 1).isEmpty))) H) := by
  intro pins s σ H x y v u Q I rx ry h
  obtain ⟨i, j, rfl, rfl, q⟩ := h
  obtain ⟨t, rfl⟩ := rx
  obtain ⟨t', rfl⟩ := ry
  exact notIn_str (fin_bl I q rfl)
/-- is, is not of two objects that are tracked lists or instances -/
def isObj : HO → Bool
  | .lst _ => true
  | .ins _ _ _ => true
  | _ => false
theorem obj_there {pins : List (Addr × Obj)} {s : Shared} {σ : St} {H : Hp} {a : Addr} {o : HO} (I : Inv X pins σ H s) (h : H a = some o) (p : isObj o = true) : ∃ ob, s.heap.get? a = some ob ∧ ob.cls ≠ .type "tuple" := by
  cases o with
  | lst xs =>
    obtain ⟨_, its, n, _, e⟩ : xs.length ≤ sizeLine ∧ ∃ (its : List Value) (n : Nat), Vals xs its ∧ s.heap.get? a = some { cls := .type "list", data := .seq its.toArray n } := I.hok a _ h
    exact ⟨_, e, (by show Value.type "list" ≠ .type "tuple"; decide +kernel)⟩
  | ins C dx fs =>
    have x := I.hok a _ h
    obtain ⟨_, _, _, e, _⟩ := x
    exact ⟨_, e, (by show Value.ref C ≠ .type "tuple"; exact fun z => by cases z)⟩
  | _ => exact absurd (show false = true from p) Bool.false_ne_true
theorem op_is_ref : OpR X (compareOp .Is) (fun x y H Q => ∃ a b oa ob, x = .ref a ∧ y = .ref b ∧ H a = some oa ∧ isObj oa = true ∧ H b = some ob ∧ isObj ob = true ∧ Q (.bl (decide (a = b))) H) := by
  intro pins s σ H x y v u Q I rx ry h
  obtain ⟨a, b, oa, ob, rfl, rfl, ha, pa, hb, pb, q⟩ := h
  cases rx
  cases ry
  obtain ⟨o1, e1, n1⟩ := obj_there I ha pa
  obtain ⟨o2, e2, _⟩ := obj_there I hb pb
  by_cases z : a = b
  · subst z
    exact wpAny_is_ref_self (fin_bl I q (by simp))
  · exact wpAny_is_ref_other z e1 e2 n1 (fin_bl I q (by simp [z]))
theorem op_isnot_ref : OpR X (compareOp .IsNot) (fun x y H Q => ∃ a b oa ob, x = .ref a ∧ y = .ref b ∧ H a = some oa ∧ isObj oa = true ∧ H b = some ob ∧ isObj ob = true ∧ Q (.bl (!decide (a = b))) H) := by
  intro pins s σ H x y v u Q I rx ry h
  obtain ⟨a, b, oa, ob, rfl, rfl, ha, pa, hb, pb, q⟩ := h
  cases rx
  cases ry
  obtain ⟨o1, e1, n1⟩ := obj_there I ha pa
  obtain ⟨o2, e2, _⟩ := obj_there I hb pb
  by_cases z : a = b
  · subst z
    exact wpAny_isNot_ref_self (fin_bl I q (by simp))
  · exact wpAny_isNot_ref_other z e1 e2 n1 (fin_bl I q (by simp [z]))

/-- two rules for one operation: by cases -/
theorem OpR.or {f : Value → Value → Sem Value} {r r' : R2} (h : OpR X f r) (h' : OpR X f r') : OpR X f (fun x y H Q => r x y H Q ∨ r' x y H Q) := by
  intro pins s σ H x y v u Q I rx ry q
  rcases q with q | q
  · exact h pins s σ H x y v u Q I rx ry q
  · exact h' pins s σ H x y v u Q I rx ry q

theorem nomark (b : Expr) {op : CmpOp} (h : op ≠ .In := by decide) (h2 : op ≠ .NotIn := by decide) : behindInMarks op b = false := by
  have e1 : (op == CmpOp.In) = false := by cases op <;> first | rfl | exact absurd rfl h
  have e2 : (op == CmpOp.NotIn) = false := by cases op <;> first | rfl | exact absurd rfl h2
  cases b <;> simp [behindInMarks, e1, e2]
/-- a comparison as a value; hm: nomark b, or (for in, not in) by with_unfolding_all rfl -/
theorem pe_cmpR {op : CmpOp} {r : R2} (ho : OpR X (compareOp op) r) (ha : PE X a ta) (hb : PE X b tb) (hm : behindInMarks op b = false) : PE X (.Compare a [op] [b] pos) (tOp r ta tb) := by
  intro pins s σ H Q I h
  exact wpAny_Compare1 (binT ha hb I h fun v u s2 x y H2 I2 rx ry q => ho pins s2 σ H2 x y v u Q I2 rx ry q) hm
/-- a reading of a value as a test -/
def tTest (t : TE) : TT := fun σ H Q => t σ H fun x H' => ∃ k, x = .bl k ∧ Q k H'
theorem pt_cmpR {op : CmpOp} {r : R2} (ho : OpR X (compareOp op) r) (ha : PE X a ta) (hb : PE X b tb) (hm : behindInMarks op b = false) : PT X (.Compare a [op] [b] pos) (tTest (tOp r ta tb)) := by
  intro pins s σ H Q I h
  refine wpAny_isTrue_Compare1 (thn (ha pins s σ H _ I h) fun v s1 ⟨x, H1, I1, r1, q1⟩ => thn (hb pins s1 σ H1 _ I1 q1) fun u s2 ⟨y, H2, I2, r2, q2⟩ =>
    thn (ho pins s2 σ H2 x y v u _ I2 r1 r2 q2) fun c s3 ⟨z, H3, I3, r3, k, e, q3⟩ => ?_) hm
  subst e
  cases r3
  exact wpAny_truthy_bool ⟨H3, I3, q3⟩
/-- a op1 b op2 c -/
def tChain (r r' : R2) (ta tb tc : TE) : TE := fun σ H Q => ta σ H fun x H1 => tb σ H1 fun y H2 => r x y H2 fun z H3 => ∃ k, z = .bl k ∧
  (if k = true then tc σ H3 fun w' H4 => r' y w' H4 Q else Q (.bl false) H3)
theorem pe_chain {op op' : CmpOp} {r r' : R2} (ho : OpR X (compareOp op) r) (ho' : OpR X (compareOp op') r') (ha : PE X a ta) (hb : PE X b tb) (hc : PE X c tc)
    (hm : lastMarks [op, op'] [b, c] = false := by with_unfolding_all rfl) : PE X (.Compare a [op, op'] [b, c] pos) (tChain r r' ta tb tc) := by
  intro pins s σ H Q I h
  refine Compare_chain (thn (ha pins s σ H _ I h) fun v s1 ⟨x, H1, I1, r1, q1⟩ => chain_link (thn (hb pins s1 σ H1 _ I1 q1) fun u s2 ⟨y, H2, I2, r2, q2⟩ =>
    thn (ho pins s2 σ H2 x y v u _ I2 r1 r2 q2) fun d s3 ⟨z, H3, I3, r3, k, e, q3⟩ => ?_)) hm
  subst e
  cases r3
  refine wpAny_truthy_bool ?_
  cases k with
  | false => exact ite_ff ⟨.bl false, H3, I3, rfl, q3⟩
  | true => exact ite_tt (chain_last (thn (hc pins s3 σ H3 _ I3 q3) fun w' s4 ⟨z', H4, I4, r4, q4⟩ => ho' pins s4 σ H4 y z' u w' Q I4 r2 r4 q4))
theorem pt_chain {op op' : CmpOp} {r r' : R2} (ho : OpR X (compareOp op) r) (ho' : OpR X (compareOp op') r') (ha : PE X a ta) (hb : PE X b tb) (hc : PE X c tc)
    (hm : lastMarks [op, op'] [b, c] = false := by with_unfolding_all rfl) : PT X (.Compare a [op, op'] [b, c] pos) (tTest (tChain r r' ta tb tc)) := by
  intro pins s σ H Q I h
  refine isTrue_chain (thn (ha pins s σ H _ I h) fun v s1 ⟨x, H1, I1, r1, q1⟩ => test_link (thn (hb pins s1 σ H1 _ I1 q1) fun u s2 ⟨y, H2, I2, r2, q2⟩ =>
    thn (ho pins s2 σ H2 x y v u _ I2 r1 r2 q2) fun d s3 ⟨z, H3, I3, r3, k, e, q3⟩ => ?_)) hm
  subst e
  cases r3
  refine wpAny_truthy_bool ?_
  cases k with
  | false =>
    obtain ⟨k', e', q'⟩ := q3
    cases e'
    exact ite_ff ⟨H3, I3, q'⟩
  | true =>
    refine ite_tt (test_last (thn (hc pins s3 σ H3 _ I3 q3) fun w' s4 ⟨z', H4, I4, r4, q4⟩ => thn (ho' pins s4 σ H4 y z' u w' _ I4 r2 r4 q4) fun d' s5 ⟨z2, H5, I5, r5, k2, e2, q5⟩ => ?_))
    subst e2
    cases r5
    exact wpAny_truthy_bool ⟨H5, I5, q5⟩

/-! ### truth -/
/-- a value's truth by the abstract heap -/
def TruV (K : PySem.W.Frag) (x : V) (H : Hp) (k : Bool) : Prop :=
  match x with
  | .non => k = false
  | .bl b => k = b
  | .int i => k = (i != 0)
  | .str y => y.length ≤ sizeLine ∧ k = ((y.length : Int) != 0)
  | .byt y => y.size ≤ sizeLine ∧ k = ((y.size : Int) != 0)
  | .ref p => (∃ xs, SqL K H p xs ∧ k = !xs.isEmpty) ∨ (∃ xs, SqT K H p xs ∧ k = !xs.isEmpty) ∨ ∃ kvs, H p = some (.dK kvs) ∧ k = !kvs.isEmpty
  | _ => False
theorem isEmpty_kv {κ : Type} {kvs : List (κ × V)} {vs : List (κ × Value)} (r : KV kvs vs) : (!vs.isEmpty) = !kvs.isEmpty := by
  cases r <;> rfl
theorem isEmpty_of {xs : List V} {its : List Value} (r : Vals xs its) : (!its.toArray.isEmpty) = !xs.isEmpty := by
  cases r <;> simp
theorem line63 : (sizeLine : Nat) < 2 ^ 63 := by rw [sizeLine_eq]; decide
theorem tru_ok : TruR X (fun x H Q => ∃ k, TruV X.K x H k ∧ Q k H) := by
  intro pins s σ H x v Q I rx h
  obtain ⟨k, e, q⟩ := h
  have hl := line63
  have hs : sizeLine = 16777216 := sizeLine_eq
  cases x with
  | non =>
    cases rx
    have e' : k = false := e
    subst e'
    exact truthy_none ⟨H, I, q⟩
  | bl b =>
    cases rx
    have e' : k = b := e
    subst e'
    exact wpAny_truthy_bool ⟨H, I, q⟩
  | int i =>
    obtain ⟨t, rfl⟩ := rx
    have e' : k = (i != 0) := e
    subst e'
    exact PySem.P.truthy_int ⟨H, I, q⟩
  | str y =>
    obtain ⟨t, rfl⟩ := rx
    obtain ⟨hy, e'⟩ : y.length ≤ sizeLine ∧ k = ((y.length : Int) != 0) := e
    subst e'
    exact PySem.P.truthy_str (by omega) ⟨H, I.tok _, q⟩
  | byt y =>
    obtain ⟨t, rfl⟩ := rx
    obtain ⟨hy, e'⟩ : y.size ≤ sizeLine ∧ k = ((y.size : Int) != 0) := e
    subst e'
    exact PySem.W.truthy_bytes (by omega) ⟨H, I.tok _, q⟩
  | ref p =>
    cases rx
    have e' : (∃ xs, SqL X.K H p xs ∧ k = !xs.isEmpty) ∨ (∃ xs, SqT X.K H p xs ∧ k = !xs.isEmpty) ∨ ∃ kvs, H p = some (.dK kvs) ∧ k = !kvs.isEmpty := e
    rcases e' with ⟨xs, hx, e'⟩ | ⟨xs, hx, e'⟩ | ⟨kvs, hx, e'⟩
    · subst e'
      obtain ⟨its, r, pl, hz⟩ := I.list hx
      have hlen := r.length
      exact wpAny_truthy_list pl.isList (by simp only [List.size_toArray]; omega) ⟨H, I.tok _, by rw [isEmpty_of r]; exact q⟩
    · subst e'
      obtain ⟨its, r, pl, hz⟩ := I.tuple hx
      have hlen := r.length
      exact truthy_tuple pl (by simp only [List.size_toArray]; omega) ⟨H, I.tok _, by rw [isEmpty_of r]; exact q⟩
    · subst e'
      obtain ⟨hz, hS, vs, r, m⟩ : kvs.length ≤ sizeLine ∧ (p == sysModules) = false ∧ ∃ vs, KV kvs vs ∧ s.heap.DictOf (mixKind X.prog X.w) p vs := I.hok p _ hx
      have hlen : kvs.length = vs.length := Paired.length r
      exact wpAny_truthy_dict hS m (by omega) ⟨H, I.tok _, by rw [isEmpty_kv r]; exact q⟩
  | _ => exact (show False from e).elim
/-- any expression whose test is its value's truth (a name, a call, a subscript, a field ..: he by fun _ => rfl) -/
theorem pt_truth (ha : PE X a ta) (he : ∀ whole, isTrue a X.env whole = (do let v ← whole; standAt a.pos; holding [v] (truthy v))) :
    PT X a (fun σ H Q => ta σ H fun x H' => ∃ k, TruV X.K x H' k ∧ Q k H') := by
  intro pins s σ H Q I h
  exact isTrue_plain (thn (ha pins s σ H _ I h) fun v s1 ⟨x, H1, I1, r1, q1⟩ => tru_ok pins s1 σ H1 x v Q I1 r1 q1) (he _)

/-! ### strs and bytes -/
theorem pe_byt {x : List UInt8} {k : Nat} : PE X (.Constant (.bytes x) k pos) (fun _ H Q => Q (.byt x.toArray) H) := fun _ _ _ H _ I h => PySem.W.Constant_bytes ⟨.byt x.toArray, H, I.tok _, ⟨_, rfl⟩, h⟩
theorem op_add_str : OpR X (binaryOp .Add) (fun x y H Q => ∃ i j, x = .str i ∧ y = .str j ∧ i.length + j.length ≤ sizeLine ∧ Q (.str (i ++ j)) H) := by
  intro pins s σ H x y v u Q I rx ry h
  obtain ⟨i, j, rfl, rfl, hz, q⟩ := h
  obtain ⟨t, rfl⟩ := rx
  obtain ⟨t', rfl⟩ := ry
  exact add_str (fun t' tk => ⟨.str (i ++ j), H, I.tok _, ⟨_, rfl⟩, q⟩) hz
theorem iop_add_str : OpR X (inplaceOp .Add) (fun x y H Q => ∃ i j, x = .str i ∧ y = .str j ∧ i.length + j.length ≤ sizeLine ∧ Q (.str (i ++ j)) H) := by
  intro pins s σ H x y v u Q I rx ry h
  obtain ⟨i, j, rfl, rfl, hz, q⟩ := h
  obtain ⟨t, rfl⟩ := rx
  obtain ⟨t', rfl⟩ := ry
  exact iadd_str (fun t' tk => ⟨.str (i ++ j), H, I.tok _, ⟨_, rfl⟩, q⟩) hz
theorem op_add_byt : OpR X (binaryOp .Add) (fun x y H Q => ∃ i j, x = .byt i ∧ y = .byt j ∧ i.size + j.size ≤ 16777216 ∧ Q (.byt (i ++ j)) H) := by
  intro pins s σ H x y v u Q I rx ry h
  obtain ⟨i, j, rfl, rfl, hz, q⟩ := h
  obtain ⟨t, rfl⟩ := rx
  obtain ⟨t', rfl⟩ := ry
  exact PySem.W.KBy.add_bytes hz (fun t' tk => ⟨.byt (i ++ j), H, I.tok _, ⟨_, rfl⟩, q⟩)

def PlainIxT (b : Expr) : Prop := ∀ o i, subscripted b false o i = operate [o, i] (getItem o i)
/-- s[i], 0 ≤ i < len -/
theorem pe_item_str (ha : PE X a ta) (hb : PE X b tb) (hs : PlainIxT b) :
    PE X (.Subscript a b pos) (tOp (fun x y H Q => ∃ z i c, x = .str z ∧ y = .int i ∧ 0 ≤ i ∧ i < 2 ^ 63 ∧ i < z.length ∧ z.cps[i.toNat]? = some c ∧ Q (.str ⟨#[c]⟩) H) ta tb) := by
  intro pins s σ H Q I h
  refine Subscript_ (binT ha hb I h fun v u s2 x y H2 I2 rx ry q => ?_)
  obtain ⟨z, i, c, rfl, rfl, h0, h63, h1, hc, q⟩ := q
  obtain ⟨t, rfl⟩ := rx
  obtain ⟨t', rfl⟩ := ry
  have e : seqIndex? i z.length = some i.toNat := PySem.StrLaws.seqIndex_nonneg h0 h1
  exact tail_any (typeIs_str s2 z t) slot_str_getitem.lookup (getItem_str (c := c) (by
    have e1 : decide (i < -(2 ^ 63 : Int)) = false := decide_eq_false (by omega)
    have e2 : decide (i ≥ 2 ^ 63) = false := decide_eq_false (by omega)
    rw [e1, e2] <;> rfl) (by rw [e]; exact hc) ⟨.str ⟨#[c]⟩, H2, I2.tok _, ⟨_, rfl⟩, q⟩) (hs _ _)
/-- b[i], 0 ≤ i < len -/
theorem pe_item_byt (ha : PE X a ta) (hb : PE X b tb) (hs : PlainIxT b) :
    PE X (.Subscript a b pos) (tOp (fun x y H Q => ∃ (z : List UInt8) (i : Int), x = .byt z.toArray ∧ y = .int i ∧ z.length ≤ sizeLine ∧ 0 ≤ i ∧ i < z.length ∧ Q (.int ((z.getD i.toNat 0).toNat : Nat)) H) ta tb) := by
  intro pins s σ H Q I h
  refine Subscript_ (binT ha hb I h fun v u s2 x y H2 I2 rx ry q => ?_)
  obtain ⟨z, i, rfl, rfl, hz, h0, h1, q⟩ := q
  obtain ⟨t, rfl⟩ := rx
  obtain ⟨t', rfl⟩ := ry
  have hl : sizeLine = 16777216 := sizeLine_eq
  exact tail_any (PySem.W.typeIs_bytes s2 z.toArray t) PySem.W.FB.slot_bytes_getitem.lookup (PySem.W.getItem_bytes (by omega) h0 h1 ⟨.int ((z.getD i.toNat 0).toNat : Nat), H2, I2.tok _, ⟨_, rfl⟩, q⟩) (hs _ _)

/-! ### scalar builtins, by CallR -/
theorem vals1 {x : V} {us : List Value} (r : Vals [x] us) : ∃ u, us = [u] ∧ RelV x u := by
  cases r with
  | cons r1 r2 => cases r2; exact ⟨_, rfl, r1⟩
theorem vals2 {x y : V} {us : List Value} (r : Vals [x, y] us) : ∃ u w', us = [u, w'] ∧ RelV x u ∧ RelV y w' := by
  cases r with
  | cons r1 r2 =>
    cases r2 with
    | cons r3 r4 => cases r4; exact ⟨_, _, rfl, r1, r3⟩
theorem call_abs : CallR X (.builtin "abs") (fun xs H Q => ∃ i, xs = [.int i] ∧ Q (.int (if i < 0 then -i else i)) H) := by
  intro pins s σ H xs us Q I r h
  obtain ⟨i, rfl, q⟩ := h
  obtain ⟨u, rfl, t, rfl⟩ := vals1 r
  exact call_abs_int fun u tk => ⟨.int (if i < 0 then -i else i), H, I.tok _, ⟨_, rfl⟩, q⟩
theorem call_max2 (hc : X.calm = true) : CallR X (.builtin "max") (fun xs H Q => ∃ i j, xs = [.int i, .int j] ∧ Q (.int (if j > i then j else i)) H) := by
  intro pins s σ H xs us Q I r h
  obtain ⟨i, j, rfl, q⟩ := h
  obtain ⟨u, w', rfl, ⟨t, rfl⟩, ⟨t', rfl⟩⟩ := vals2 r
  refine max_two_ints (I.ok.hd hc) fun h' tk k => ⟨_, H, I.kept k, ?_, q⟩
  by_cases hj : j > i
  · rw [if_pos hj, if_pos hj]; exact ⟨_, rfl⟩
  · rw [if_neg hj, if_neg hj]; exact ⟨_, rfl⟩
theorem call_min2 (hc : X.calm = true) : CallR X (.builtin "min") (fun xs H Q => ∃ i j, xs = [.int i, .int j] ∧ Q (.int (if j < i then j else i)) H) := by
  intro pins s σ H xs us Q I r h
  obtain ⟨i, j, rfl, q⟩ := h
  obtain ⟨u, w', rfl, ⟨t, rfl⟩, ⟨t', rfl⟩⟩ := vals2 r
  refine min_two_ints (I.ok.hd hc) fun h' tk k => ⟨_, H, I.kept k, ?_, q⟩
  by_cases hj : j < i
  · rw [if_pos hj, if_pos hj]; exact ⟨_, rfl⟩
  · rw [if_neg hj, if_neg hj]; exact ⟨_, rfl⟩
theorem call_int1 : CallR X (.type "int") (fun xs H Q => (∃ i, xs = [.int i] ∧ Q (.int i) H) ∨ ∃ k, xs = [.bl k] ∧ Q (.int (if k then 1 else 0)) H) := by
  intro pins s σ H xs us Q I r h
  rcases h with ⟨i, rfl, q⟩ | ⟨k, rfl, q⟩
  · obtain ⟨u, rfl, t, rfl⟩ := vals1 r
    exact call_int_int ⟨.int i, H, I, ⟨_, rfl⟩, q⟩
  · obtain ⟨u, rfl, r1⟩ := vals1 r
    cases r1
    exact call_int_bool ⟨.int (if k then 1 else 0), H, I.tok _, ⟨_, rfl⟩, q⟩
theorem call_bool1 : CallR X (.type "bool") (fun xs H Q => (∃ i, xs = [.int i] ∧ Q (.bl (i != 0)) H) ∨ ∃ k, xs = [.bl k] ∧ Q (.bl k) H) := by
  intro pins s σ H xs us Q I r h
  rcases h with ⟨i, rfl, q⟩ | ⟨k, rfl, q⟩
  · obtain ⟨u, rfl, t, rfl⟩ := vals1 r
    exact call_bool_int ⟨.bl (i != 0), H, I, rfl, q⟩
  · obtain ⟨u, rfl, r1⟩ := vals1 r
    cases r1
    exact call_bool_bool ⟨.bl k, H, I, rfl, q⟩
theorem call_str_int : CallR X (.type "str") (fun xs H Q => ∃ i, xs = [.int i] ∧ i.natAbs.log2 < 1920 ∧ Q (.str (toString i)) H) := by
  intro pins s σ H xs us Q I r h
  obtain ⟨i, rfl, hz, q⟩ := h
  obtain ⟨u, rfl, t, rfl⟩ := vals1 r
  exact PySem.P.str_of_int hz ⟨.str _, H, I.tok _, ⟨_, rfl⟩, q⟩
theorem call_ord : CallR X (.builtin "ord") (fun xs H Q => ∃ x, xs = [.str x] ∧ x.length = 1 ∧ Q (.int (x.cps.getD 0 0 : Nat)) H) := by
  intro pins s σ H xs us Q I r h
  obtain ⟨x, rfl, hz, q⟩ := h
  obtain ⟨u, rfl, t, rfl⟩ := vals1 r
  exact ord_of_one hz ⟨.int _, H, I.tok _, ⟨_, rfl⟩, q⟩
theorem call_chr : CallR X (.builtin "chr") (fun xs H Q => ∃ i, xs = [.int i] ∧ 0 ≤ i ∧ i ≤ 1114111 ∧ Q (.str ⟨#[i.toNat]⟩) H) := by
  intro pins s σ H xs us Q I r h
  obtain ⟨i, rfl, h0, h1, q⟩ := h
  obtain ⟨u, rfl, t, rfl⟩ := vals1 r
  exact chr_of_range h0 h1 ⟨.str _, H, I.tok _, ⟨_, rfl⟩, q⟩
/-- len of a str, a bytes, a list, a tuple -/
def LenV (K : PySem.W.Frag) (x : V) (H : Hp) (n : Nat) : Prop :=
  match x with
  | .str y => y.length ≤ sizeLine ∧ n = y.length
  | .byt y => y.size ≤ sizeLine ∧ n = y.size
  | .ref p => (∃ xs, SqL K H p xs ∧ n = xs.length) ∨ ∃ xs, SqT K H p xs ∧ n = xs.length
  | _ => False
theorem call_len : CallR X (.builtin "len") (fun xs H Q => ∃ x n, xs = [x] ∧ LenV X.K x H n ∧ Q (.int n) H) := by
  intro pins s σ H xs us Q I r h
  obtain ⟨x, n, rfl, e, q⟩ := h
  obtain ⟨u, rfl, rx⟩ := vals1 r
  have hl := line63
  have hs : sizeLine = 16777216 := sizeLine_eq
  cases x with
  | str y =>
    obtain ⟨t, rfl⟩ := rx
    obtain ⟨hy, e'⟩ : y.length ≤ sizeLine ∧ n = y.length := e
    subst e'
    exact len_str (by omega) ⟨.int _, H, I.tok _, ⟨_, rfl⟩, q⟩
  | byt y =>
    obtain ⟨t, rfl⟩ := rx
    obtain ⟨hy, e'⟩ : y.size ≤ sizeLine ∧ n = y.size := e
    subst e'
    exact PySem.W.len_bytes (by omega) ⟨.int _, H, I.tok _, ⟨_, rfl⟩, q⟩
  | ref p =>
    cases rx
    have e' : (∃ xs, SqL X.K H p xs ∧ n = xs.length) ∨ ∃ xs, SqT X.K H p xs ∧ n = xs.length := e
    rcases e' with ⟨xs, hx, e'⟩ | ⟨xs, hx, e'⟩
    · subst e'
      obtain ⟨its, r', pl, hz⟩ := I.list hx
      have hlen := r'.length
      exact Calls.call_len_list pl.isList (by simp only [List.size_toArray]; omega) ⟨.int xs.length, H, I.tok _, ⟨_, by simp only [List.size_toArray]; rw [hlen]⟩, q⟩
    · subst e'
      obtain ⟨its, r', pl, hz⟩ := I.tuple hx
      have hlen := r'.length
      exact len_tuple pl (by simp only [List.size_toArray]; omega) ⟨.int xs.length, H, I.tok _, ⟨_, by simp only [List.size_toArray]; rw [hlen]⟩, q⟩
  | _ => exact (show False from e).elim
/-- divmod: a new tuple -/
theorem call_divmod : CallR X (.builtin "divmod") (fun xs H Q => ∃ i j, xs = [.int i, .int j] ∧ CDiv i j ∧ ∀ p, H p = none → Q (.ref p) (upd H p (.tup [.int (i / j), .int (i % j)]))) := by
  intro pins s σ H xs us Q I r h
  obtain ⟨i, j, rfl, ⟨h1, h2⟩, q⟩ := h
  obtain ⟨u, w', rfl, ⟨t, rfl⟩, ⟨t', rfl⟩⟩ := vals2 r
  refine divmod_int (by omega) ?_ (.inl (PyProof.noPylong_small (by omega)))
  rw [Int.fdiv_eq_ediv_of_nonneg i (by omega), Int.fmod_eq_emod_of_nonneg i (by omega)]
  have hn : H s.heap.objs.size = none := I.hok.fresh (Nat.le_refl _)
  refine ⟨.ref s.heap.objs.size, _, ?_, rfl, q _ hn⟩
  refine I.laid (fun b o e => Heap.get?_push_of_some _ e) (Nat.le_refl _) ⟨by simp only [List.length_cons, List.length_nil]; rw [sizeLine_eq]; decide, [.int (i / j) s.toks, .int (i % j) (s.toks + 1)], .cons ⟨_, rfl⟩ (.cons ⟨_, rfl⟩ .nil), ?_⟩
  exact ⟨_, Heap.get?_push_size s.heap rfl, rfl, 0, rfl⟩
end
end L2

namespace L2
open PySem PySem.Spec PyProof.Rows

/-! ### an instance, its attributes a map -/
structure ObjM (h : Heap) (x dx C : Addr) (mA : Str → Option Value) : Prop where
  obj : h.get? x = some (PySem.W.instObj C dx)
  ns : h.Ns1 dx mA
  ne : dx ≠ x

theorem lookIn_ns {h : Heap} {dx : Addr} {mA : Str → Option Value} (n : h.Ns1 dx mA) : ∃ od, h.get? dx = some od ∧ ∀ name, PySem.W.lookIn name od = some (mA name) := by
  obtain ⟨o, es, ep, ho, hd, hk, _, hm⟩ := n
  refine ⟨o, ho, fun name => ?_⟩
  have e := hm name
  unfold nsFind findBy at e
  rw [← Array.find?_toList] at e
  unfold PySem.W.lookIn
  rw [hd]
  dsimp only
  split
  · rename_i y q
    rw [q] at e
    exact congrArg some e
  · rename_i q
    rw [q] at e
    have a : es.toList.any (·.refKey) = false := by
      rw [List.any_eq_false]
      intro y hy
      obtain ⟨z, t, hkey⟩ := hk y (Array.mem_toList_iff.mp hy)
      simp [DictEntry.refKey, hkey]
    have a' : ¬ es.toList.any (·.refKey) = true := by rw [a]; exact Bool.false_ne_true
    rw [if_neg a']
    exact congrArg some e

theorem ObjM.look {h : Heap} {x dx C : Addr} {mA : Str → Option Value} (I : ObjM h x dx C mA) : ∃ od, PySem.W.InstAt h x (PySem.W.instObj C dx) C (some od) ∧ ∀ name, PySem.W.lookIn name od = some (mA name) :=
  let ⟨od, ho, hl⟩ := lookIn_ns I.ns
  ⟨od, ⟨I.obj, rfl, rfl, ho⟩, hl⟩

section
variable {prog : Program} {w : World} {A : Around} {E : Value → Shared → Prop} {s : Shared} {K : PySem.W.Frag} {x dx C f : Addr} {mA : Str → Option Value} {name : Str} {v : Value}

theorem get_map {expr : Bool} {Q : Value → Shared → Prop} (X : K.In s.heap) (I : ObjM s.heap x dx C mA) (hg : PySem.W.plainGet K C name = true) (hh : PySem.W.hasDictIn K C = true)
    (ha : PySem.W.findIn K (.ref C) name = some none) (hv : mA name = some v) (hv' : PySem.W.handedIn v = true) (h : Q v { s with toks := s.toks + 1 }) :
    wpAny (model prog w) A (getAttr (.ref x) name expr) Q E s := by
  obtain ⟨od, J, hl⟩ := I.look
  exact PySem.W.get_value X J (PySem.W.plainGet_of hg).1 (PySem.W.findObj_own hh ha rfl (by rw [hl, hv])) hv' h

theorem get_const {expr : Bool} {a : Value} {Q : Value → Shared → Prop} (X : K.In s.heap) (I : ObjM s.heap x dx C mA) (hg : PySem.W.plainGet K C name = true) (hh : PySem.W.hasDictIn K C = true)
    (ha : PySem.W.findIn K (.ref C) name = some (some a)) (hn : PySem.W.specialIn K a "__get__" = some none) (hc : PySem.W.copiedNames.contains name = false) (hv : mA name = none) (hv' : PySem.W.handedIn a = true)
    (h : Q a { s with toks := s.toks + 1 }) : wpAny (model prog w) A (getAttr (.ref x) name expr) Q E s := by
  obtain ⟨od, J, hl⟩ := I.look
  exact PySem.W.get_value X J (PySem.W.plainGet_of hg).1 (PySem.W.findObj_cls hh ha hn hv' hc (by rw [hl, hv])) hv' h

theorem get_meth {pl : Sem Bool} {Q : Value × List Value → Shared → Prop} (X : K.In s.heap) (I : ObjM s.heap x dx C mA) (hg : PySem.W.plainGet K C name = true)
    (hf : PySem.W.findIn K (.ref C) name = some (some (.ref f))) (ht : PySem.W.isFn K (.ref f) = true) (hv : mA name = none) (h : Q (.ref f, [.ref x]) s) :
    wpAny (model prog w) A (getMethod (.ref x) name pl) Q E s := by
  obtain ⟨od, J, hl⟩ := I.look
  exact PySem.W.method_fn X J (PySem.W.plainGet_of hg).1 (PySem.W.plainGet_of hg).2 hf (beq_iff_eq.mp ht) (by show (PySem.W.lookIn name od).map (·.isSome) = some false; rw [hl, hv]; rfl) h

theorem set_map {ns : List Str} {Q : Unit → Shared → Prop} (X : K.In s.heap) (I : ObjM s.heap x dx C mA)
    (hs : PySem.W.findIn K (.ref C) "__setattr__" = some (some (.builtin "object.__setattr__"))) (hp : PySem.W.plainOver K C = true) (ht : PySem.W.takerIn K C name = some none) (hh : PySem.W.hasDictIn K C = true)
    (hw : PySem.Within mA ns) (hsz : ns.length ≤ sizeLine)
    (h : ∀ h', ObjM h' x dx C (fun y => if y = name then some v else mA y) → Heap.SameBut dx s.heap h' → Q () { s with heap := h', toks := s.toks + 2 }) :
    wpAny (model prog w) A (setAttr (.ref x) name v) Q E s := by
  obtain ⟨od, J, hl⟩ := I.look
  refine PySem.W.set_plain X J hs (PySem.W.osa_open (s := { s with toks := s.toks + 1 }) (r := none) X J hp ht fun b => ?_)
  obtain ⟨cd, hc, hd'⟩ := PySem.W.any_some hh
  have hx : s.heap.get? x = some ⟨.ref C, some dx, .plain, #[]⟩ := I.obj
  refine wpAny_bind (wpAny_pure (wpAny_bind (wpAny_bind (wpAny_loadPart hx (wpAny_bind (PySem.W.Looks.here (s := { s with toks := s.toks + 1 }) (PySem.W.looks_clsIn X hc) ?_))))))
  rw [hd']
  refine wpAny_pure (a := some dx) (wpAny_bind (wpAny_pure (wpAny_bind ?_)))
  refine wpAny_nsSet1 (s := { s with toks := s.toks + 1 }) I.ns fun h' hn2 hs2 => ?_
  obtain ⟨oD, esD, epD, hoD, hdD, hcD⟩ := hn2.count (PySem.Within.cons name v hw)
  refine wpAny_bind (wpAny_lookBehind hoD (by rw [hdD]; exact pastItsLine_dict (Nat.le_trans hcD (by rw [List.length_cons]; omega))) ?_)
  exact wpAny_pure (h _ ⟨(hs2.2 _ (Ne.symm I.ne)).trans I.obj, hn2, I.ne⟩ hs2)

/-- C(..): the dict at the heap's end, the instance behind it; then its __init__ -/
theorem make_map {R : Result → Shared → Prop} {vs : List Value} {kw : List (Str × Value)} (X : K.In s.heap) (hm : PySem.W.makesIn K C = true)
    (hi : PySem.W.findIn K (.ref C) "__init__" = some (some (.ref f))) (hf : PySem.W.typeIn K (.ref f) = some (.type "function"))
    (h : codeAny (model prog w) (A.under (.builtin "type.__call__" ⟨.ref C :: vs, kw⟩)) (.call (.ref f) ⟨.ref (s.heap.objs.size + 1) :: vs, kw⟩) (PySem.W.InitBack (s.heap.objs.size + 1) R)
      { s with heap := (s.heap.push PySem.W.emptyDict).push (PySem.W.instObj C s.heap.objs.size) }) :
    codeAny (model prog w) A (.call (.ref C) ⟨vs, kw⟩) R s := by
  obtain ⟨hh, g, d, t, os⟩ := s
  exact PySem.W.make_core (PySem.W.makes_of X hm) (PySem.W.looks_findIn X hi) (fun self => PySem.W.bind_fn X self hf) (.inl rfl) h
/-- C() where there is no __init__ but object's -/
theorem make_map0 {R : Result → Shared → Prop} (X : K.In s.heap) (hm : PySem.W.makesIn K C = true)
    (hi : PySem.W.findIn K (.ref C) "__init__" = some (some (.builtin "object.__init__")))
    (hb : ∀ self, PySem.W.Looks (model prog w) s.heap (bindSpecial (.builtin "object.__init__") self) (.builtin "object.__init__", [self]))
    (h : codeAny (model prog w) (A.under (.builtin "type.__call__" ⟨[.ref C], []⟩)) (.call (.builtin "object.__init__") ⟨[.ref (s.heap.objs.size + 1)], []⟩) (PySem.W.InitBack (s.heap.objs.size + 1) R)
      { s with heap := (s.heap.push PySem.W.emptyDict).push (PySem.W.instObj C s.heap.objs.size) }) :
    codeAny (model prog w) A (.call (.ref C) ⟨[], []⟩) R s := by
  obtain ⟨hh, g, d, t, os⟩ := s
  exact PySem.W.make_core (PySem.W.makes_of X hm) (PySem.W.looks_findIn X hi) hb (.inr ⟨rfl, rfl⟩) h
end

/-! ### the attributes as a list of pairs -/
def putF (f : Str) (v : V) : List (Str × V) → List (Str × V)
  | [] => [(f, v)]
  | (g, x) :: r => if g = f then (g, v) :: r else (g, x) :: putF f v r
theorem lookup_putF (f g : Str) (v : V) : ∀ fs : List (Str × V), (putF f v fs).lookup g = if g = f then some v else fs.lookup g
  | [] => by
    show List.lookup g [(f, v)] = _
    by_cases h : g = f
    · have hb : (g == f) = true := beq_iff_eq.mpr h
      simp only [List.lookup, hb, if_pos h]
    · have hb : (g == f) = false := beq_eq_false_iff_ne.mpr h
      simp only [List.lookup, hb, if_neg h]
  | (k, x) :: r => by
    have ih := lookup_putF f g v r
    rw [show putF f v ((k, x) :: r) = (if k = f then (k, v) :: r else (k, x) :: putF f v r) from rfl]
    by_cases hk : k = f
    · rw [if_pos hk]
      by_cases h : g = k
      · have hb : (g == k) = true := beq_iff_eq.mpr h
        simp only [List.lookup, hb, if_pos (h.trans hk)]
      · have hb : (g == k) = false := beq_eq_false_iff_ne.mpr h
        simp only [List.lookup, hb, if_neg (fun e : g = f => h (e.trans hk.symm))]
    · rw [if_neg hk]
      by_cases h : g = k
      · have hb : (g == k) = true := beq_iff_eq.mpr h
        simp only [List.lookup, hb, if_neg (fun e : g = f => hk (h.symm.trans e))]
      · have hb : (g == k) = false := beq_eq_false_iff_ne.mpr h
        simp only [List.lookup, hb]
        exact ih
theorem keys_putF (f : Str) (v : V) : ∀ fs : List (Str × V), f ∈ (putF f v fs).map (·.1) ∧ ∀ g, g ∈ fs.map (·.1) → g ∈ (putF f v fs).map (·.1)
  | [] => ⟨by simp [putF], fun g h => by simp at h⟩
  | (k, x) :: r => by
    obtain ⟨i1, i2⟩ := keys_putF f v r
    rw [show putF f v ((k, x) :: r) = (if k = f then (k, v) :: r else (k, x) :: putF f v r) from rfl]
    by_cases hk : k = f
    · rw [if_pos hk]
      subst hk
      exact ⟨by simp, fun g h => by simpa using h⟩
    · rw [if_neg hk]
      refine ⟨?_, fun g h => ?_⟩
      · rw [List.map_cons]
        exact List.mem_cons_of_mem _ i1
      · rw [List.map_cons] at h ⊢
        rcases List.mem_cons.mp h with e | e
        · exact List.mem_cons.mpr (.inl e)
        · exact List.mem_cons_of_mem _ (i2 g e)
theorem length_putF (f : Str) (v : V) : ∀ fs : List (Str × V), (putF f v fs).length ≤ fs.length + 1
  | [] => by simp [putF]
  | (k, x) :: r => by
    have ih := length_putF f v r
    rw [show putF f v ((k, x) :: r) = (if k = f then (k, v) :: r else (k, x) :: putF f v r) from rfl]
    by_cases hk : k = f
    · rw [if_pos hk, List.length_cons, List.length_cons]; omega
    · rw [if_neg hk, List.length_cons, List.length_cons]; omega

theorem RelO.some_of {v : V} {o : Option Value} (r : RelO (some v) o) : ∃ u, o = some u ∧ RelV v u := by
  cases o with
  | none => exact (show False from r).elim
  | some u => exact ⟨u, rfl, r⟩
theorem RelO.none_of {o : Option Value} (r : RelO none o) : o = none := by
  cases o with
  | none => rfl
  | some u => exact (show False from r).elim
theorem handed_of {v : V} {u : Value} (r : RelV v u) : PySem.W.handedIn u = true := by
  cases v with
  | non => cases (show u = Value.none from r); rfl
  | bl b => cases (show u = Value.bool b from r); rfl
  | int i => obtain ⟨t, e⟩ := (show ∃ t, u = Value.int i t from r); cases e; rfl
  | str x => obtain ⟨t, e⟩ := (show ∃ t, u = Value.str x t from r); cases e; rfl
  | byt b => obtain ⟨t, e⟩ := (show ∃ t, u = Value.bytes b t from r); cases e; rfl
  | flt b => obtain ⟨t, e⟩ := (show ∃ t, u = Value.float b t from r); cases e; rfl
  | ref a => cases (show u = Value.ref a from r); rfl
  | ty n => cases (show u = Value.type n from r); rfl

section
variable {P : Program} {w : World} {H H' : Hp} {h h' : Heap} {a C dx : Addr} {fs fs' : List (Str × V)}
theorem ins_get (hok : HOk P w H h) (e : H a = some (.ins C dx fs)) : ∃ mA, ObjM h a dx C mA ∧ (∀ f, RelO (fs.lookup f) (mA f)) ∧ PySem.Within mA (fs.map (·.1)) ∧ fs.length ≤ 1000 ∧ H dx = some (.own a) := by
  obtain ⟨d, z, ne, ob, mA, n, r, q⟩ := (show ObjOk P w H h a (.ins C dx fs) from hok a _ e)
  exact ⟨mA, ⟨ob, n, ne⟩, r, q, z, d⟩
end

/-! ### what of the text a class must have -/
structure Cls (K : PySem.W.Frag) (C : Addr) : Prop where
  pg : PySem.W.plainGet K C Str.empty = true
  hd : PySem.W.hasDictIn K C = true
  po : PySem.W.plainOver K C = true
  sa : PySem.W.findIn K (.ref C) "__setattr__" = some (some (.builtin "object.__setattr__"))
theorem Cls.get {K : PySem.W.Frag} {C : Addr} (c : Cls K C) (f : Str) : PySem.W.plainGet K C f = true := c.pg
/-- no class of it has the name -/
def NoAttr (K : PySem.W.Frag) (C : Addr) (f : Str) : Prop := PySem.W.findIn K (.ref C) f = some none
theorem NoAttr.taker {K : PySem.W.Frag} {C : Addr} {f : Str} (n : NoAttr K C f) : PySem.W.takerIn K C f = some none := by
  unfold PySem.W.takerIn
  rw [show PySem.W.findIn K (.ref C) f = some none from n]
  rfl
/-- a constant of the class -/
structure Con (K : PySem.W.Frag) (C : Addr) (f : Str) (v : V) (u : Value) : Prop where
  at_ : PySem.W.findIn K (.ref C) f = some (some u)
  rel : RelV v u
  get : PySem.W.specialIn K u "__get__" = some none
  cp : PySem.W.copiedNames.contains f = false
/-- a method: a plain def of the class or of one above it -/
structure Meth (K : PySem.W.Frag) (C : Addr) (m : Str) (f : Addr) : Prop where
  at_ : PySem.W.findIn K (.ref C) m = some (some (.ref f))
  fn : PySem.W.isFn K (.ref f) = true
  kp : PySem.W.keepIn K (.ref f) = true

section
variable {X : Cx} {pins : List (Addr × Obj)} {σ : St} {H : Hp} {s : Shared} {a C dx : Addr} {fs : List (Str × V)} {f : Str} {v : V} {A : Around} {E : Value → Shared → Prop}

theorem getattr_ok {b : Bool} {Q : Value → Shared → Prop} (I : Inv X pins σ H s) (e : H a = some (.ins C dx fs)) (c : Cls X.K C) (n : NoAttr X.K C f) (l : fs.lookup f = some v)
    (h : ∀ u s', Inv X pins σ H s' → RelV v u → Q u s') : wpAny (model X.prog X.w) A (getAttr (.ref a) f b) Q E s := by
  obtain ⟨mA, O, r, _, _, _⟩ := ins_get I.hok e
  obtain ⟨u, hu, ru⟩ := RelO.some_of (v := v) (o := mA f) (by rw [← l]; exact r f)
  exact get_map I.kIn O (c.get f) c.hd n hu (handed_of ru) (h u _ (I.tok _) ru)

theorem getcon_ok {b : Bool} {u : Value} {Q : Value → Shared → Prop} (I : Inv X pins σ H s) (e : H a = some (.ins C dx fs)) (c : Cls X.K C) (k : Con X.K C f v u) (l : fs.lookup f = none)
    (h : ∀ s', Inv X pins σ H s' → Q u s') : wpAny (model X.prog X.w) A (getAttr (.ref a) f b) Q E s := by
  obtain ⟨mA, O, r, _, _, _⟩ := ins_get I.hok e
  have hn : mA f = none := RelO.none_of (by rw [← l]; exact r f)
  exact get_const I.kIn O (c.get f) c.hd k.at_ k.get k.cp hn (handed_of k.rel) (h _ (I.tok _))

theorem getmeth_ok {m : Str} {g : Addr} {pl : Sem Bool} {Q : Value × List Value → Shared → Prop} (I : Inv X pins σ H s) (e : H a = some (.ins C dx fs)) (c : Cls X.K C) (k : Meth X.K C m g) (l : fs.lookup m = none)
    (h : Q (.ref g, [.ref a]) s) : wpAny (model X.prog X.w) A (getMethod (.ref a) m pl) Q E s := by
  obtain ⟨mA, O, r, _, _, _⟩ := ins_get I.hok e
  have hn : mA m = none := RelO.none_of (by rw [← l]; exact r m)
  exact get_meth I.kIn O (c.get m) k.at_ k.fn hn h

theorem setattr_ok {y : V} {u : Value} {Q : Unit → Shared → Prop} (I : Inv X pins σ H s) (e : H a = some (.ins C dx fs)) (c : Cls X.K C) (n : NoAttr X.K C f) (hl : fs.length < 1000) (ry : RelV y u)
    (h : ∀ s', Inv X pins σ (upd H a (.ins C dx (putF f y fs))) s' → Q () s') : wpAny (model X.prog X.w) A (setAttr (.ref a) f u) Q E s := by
  obtain ⟨mA, O, r, wi, _, ho⟩ := ins_get I.hok e
  have hz : (fs.map (·.1)).length ≤ sizeLine := by rw [List.length_map, sizeLine_eq]; omega
  refine set_map I.kIn O c.sa c.po n.taker c.hd wi hz fun h' O' sb => h _ ?_
  have hd : ∃ o, h'.get? dx = some o := let ⟨o, _, _, e', _⟩ := O'.ns; ⟨o, e'⟩
  refine I.write (x := a) (e := dx) (by rw [e]; exact True.intro) (.inr ho) (fun b q hb z => (sb.2 b hb).trans z) hd ?_
  refine ⟨by rw [upd_ne O.ne]; exact ho, ?_, O.ne, O'.obj, _, O'.ns, fun g => ?_, fun g hg => ?_⟩
  · have := length_putF f y fs; omega
  · show RelO ((putF f y fs).lookup g) (if g = f then some u else mA g)
    rw [lookup_putF]
    by_cases q : g = f
    · rw [if_pos q, if_pos q]; exact ry
    · rw [if_neg q, if_neg q]; exact r g
  · by_cases q : g = f
    · rw [q]; exact (keys_putF f y fs).1
    · refine (keys_putF f y fs).2 g (wi g fun z => hg ?_)
      show (if g = f then some u else mA g) = none
      rw [if_neg q]; exact z

/-- a new instance, tracked, without attributes -/
theorem Inv.made (I : Inv X pins σ H s) : Inv X pins σ (upd (upd H s.heap.objs.size (.own (s.heap.objs.size + 1))) (s.heap.objs.size + 1) (.ins C s.heap.objs.size []))
    { s with heap := (s.heap.push PySem.W.emptyDict).push (PySem.W.instObj C s.heap.objs.size) } := by
  have e1 : (s.heap.push PySem.W.emptyDict).get? s.heap.objs.size = some PySem.W.emptyDict := Heap.get?_push_size s.heap rfl
  have e2 : ((s.heap.push PySem.W.emptyDict).push (PySem.W.instObj C s.heap.objs.size)).get? (s.heap.objs.size + 1) = some (PySem.W.instObj C s.heap.objs.size) := by
    have := Heap.get?_push_size (s.heap.push PySem.W.emptyDict) (o := PySem.W.instObj C s.heap.objs.size) rfl
    rwa [Heap.size_push] at this
  have e3 : (s.heap.push PySem.W.emptyDict).Ns s.heap.objs.size (fun _ => none) := ⟨PySem.W.emptyDict, #[], _, e1, rfl, (fun e he => absurd he (by simp)), fun _ => rfl⟩
  have I1 := I.laid (a := s.heap.objs.size) (o := .own (s.heap.objs.size + 1)) (h' := s.heap.push PySem.W.emptyDict) (t' := s.toks) (fun b u q => Heap.get?_push_of_some _ q) (Nat.le_refl _) ⟨_, e1⟩
  refine I1.laid (a := s.heap.objs.size + 1) (o := .ins C s.heap.objs.size []) (t' := s.toks) (fun b u q => Heap.get?_push_of_some _ q) (Nat.le_of_eq (Heap.size_push _ _)) ?_
  have ne : s.heap.objs.size ≠ s.heap.objs.size + 1 := Nat.ne_of_lt (Nat.lt_succ_self _)
  refine ⟨by rw [upd_ne ne, upd_same], Nat.zero_le _, ne, e2, fun _ => none, (Heap.Ns1.of_empty e3).at fun o q => Heap.get?_push_of_some _ q, fun _ => True.intro, fun y hy => absurd rfl hy⟩

/-- e.f where nothing but the object is asked: through attributeBase (super) and the last hold -/
theorem attr_of {prog : Program} {w : World} {env : Env} {e : Expr} {f : Str} {pos : Pos} {s : Shared} {Q : Value → Shared → Prop} (hb : attributeBase e f env (eval e env) = eval e env)
    (h : wpAny (model prog w) A (eval e env) (fun o s₁ => wpAny (model prog w) A (getAttr o f true) Q E s₁) E s) : wpAny (model prog w) A (eval (.Attribute e f pos) env) Q E s :=
  Attribute_any_ h (by rw [arm_eval_Attribute, hb])
end

/-! ### readings and rules -/
/-- e.f, an attribute of the instance -/
def tFld (K : PySem.W.Frag) (ta : TE) (f : Str) : TE := fun σ H Q => ta σ H fun x H1 => ∃ a C dx fs v, x = .ref a ∧ H1 a = some (.ins C dx fs) ∧ Cls K C ∧ NoAttr K C f ∧ fs.lookup f = some v ∧ Q v H1
/-- e.f, a constant of the class -/
def tCon (K : PySem.W.Frag) (ta : TE) (f : Str) : TE := fun σ H Q => ta σ H fun x H1 => ∃ a C dx fs v u, x = .ref a ∧ H1 a = some (.ins C dx fs) ∧ Cls K C ∧ Con K C f v u ∧ fs.lookup f = none ∧ Q v H1
/-- e.f = value -/
def sFld (K : PySem.W.Frag) (ta tv : TE) (f : Str) : TS := fun D σ H => tv σ H fun y H1 => ta σ H1 fun x H2 => ∃ a C dx fs, x = .ref a ∧ H2 a = some (.ins C dx fs) ∧ Cls K C ∧ NoAttr K C f ∧ fs.length < 1000 ∧
  D.nx σ (upd H2 a (.ins C dx (putF f y fs)))
/-- an augmented operator on two values -/
def InOp (X : Cx) (op : Operator) (rd : V → V → Hp → VK → Prop) : Prop :=
  ∀ (pins : List (Addr × Obj)) (s : Shared) (σ : St) (H : Hp) (x y : V) (u v : Value) (Q : VK), Inv X pins σ H s → RelV x u → RelV y v → rd x y H Q → wpAny (model X.prog X.w) X.A (inplaceOp op u v) (EP X pins σ Q) X.xe s
/-- e.f op= value -/
def sFldAug (K : PySem.W.Frag) (ta tv : TE) (rd : V → V → Hp → VK → Prop) (f : Str) : TS := fun D σ H => ta σ H fun x H1 => ∃ a C dx fs v, x = .ref a ∧ H1 a = some (.ins C dx fs) ∧ Cls K C ∧ NoAttr K C f ∧ fs.lookup f = some v ∧
  tv σ H1 fun y H2 => rd v y H2 fun z H3 => ∃ dx' fs', H3 a = some (.ins C dx' fs') ∧ fs'.length < 1000 ∧ D.nx σ (upd H3 a (.ins C dx' (putF f z fs')))

section
variable {X : Cx} {o e value : Expr} {f : Str} {pos pos' tpos : Pos} {ta tv : TE}
theorem pe_fld (he : PE X e ta) (hb : attributeBase e f X.env (eval e X.env) = eval e X.env) : PE X (.Attribute e f pos) (tFld X.K ta f) := by
  intro pins s σ H Q I h
  refine attr_of hb (thn (he pins s σ H _ I h) fun u s1 ⟨x, H1, I1, rx, a, C, dx, fs, v, ex, ea, c, n, l, q⟩ => ?_)
  subst ex
  obtain rfl : u = Value.ref a := rx
  exact getattr_ok I1 ea c n l fun u' s2 I2 ru => ⟨v, H1, I2, ru, q⟩
theorem pe_con (he : PE X e ta) (hb : attributeBase e f X.env (eval e X.env) = eval e X.env) : PE X (.Attribute e f pos) (tCon X.K ta f) := by
  intro pins s σ H Q I h
  refine attr_of hb (thn (he pins s σ H _ I h) fun u s1 ⟨x, H1, I1, rx, a, C, dx, fs, v, u0, ex, ea, c, k, l, q⟩ => ?_)
  subst ex
  obtain rfl : u = Value.ref a := rx
  exact getcon_ok I1 ea c k l fun s2 I2 => ⟨v, H1, I2, k.rel, q⟩
theorem ps_fld (ha : PE X o ta) (hv : PE X value tv) (hs : swapsWith value (some (.Attribute o f pos')) pos.line X.env = pure false) : PS X (.Assign [.Attribute o f pos'] value pos) (sFld X.K ta tv f) := by
  intro pins s σ H D I h
  refine plainObj_wpAny_Assign_Attribute (thn (hv pins s σ H _ I h) fun u s1 ⟨y, H1, I1, ry, q⟩ => thn (ha pins s1 σ H1 _ I1 q) fun ov s2 ⟨x, H2, I2, rx, a, C, dx, fs, ex, ea, c, n, l, q2⟩ => ?_) hs
  subst ex
  obtain rfl : ov = Value.ref a := rx
  exact setattr_ok I2 ea c n l ry fun s3 I3 => ⟨σ, _, I3, q2⟩
theorem ps_fldaug {op : Operator} {rd : V → V → Hp → VK → Prop} (ha : PE X o ta) (hv : PE X value tv) (hop : InOp X op rd) : PS X (.AugAssign (.Attribute o f tpos) op value pos) (sFldAug X.K ta tv rd f) := by
  intro pins s σ H D I h
  refine wpAny_AugAssign_AttributeAny (thn (ha pins s σ H _ I h) fun ov s1 ⟨x, H1, I1, rx, a, C, dx, fs, v, ex, ea, c, n, l, q⟩ => ?_)
  subst ex
  obtain rfl : ov = Value.ref a := rx
  refine getattr_ok I1 ea c n l fun u s2 I2 ru => thn (hv pins s2 σ H1 _ I2 q) fun w3 s3 ⟨y, H2, I3, ry, q3⟩ => thn (hop pins s3 σ H2 v y u w3 _ I3 ru ry q3) fun w4 s4 ⟨z, H3, I4, rz, dx', fs', ea', l', q4⟩ => ?_
  exact setattr_ok I4 ea' c n l' rz fun s5 I5 => ⟨σ, _, I5, q4⟩
def rAdd : V → V → Hp → VK → Prop := fun x y H Q => ∃ i j, x = .int i ∧ y = .int j ∧ Q (.int (i + j)) H
def rSub : V → V → Hp → VK → Prop := fun x y H Q => ∃ i j, x = .int i ∧ y = .int j ∧ Q (.int (i - j)) H
theorem in_add : InOp X .Add rAdd := by
  rintro pins s σ H x y u v Q I rx ry ⟨i, j, rfl, rfl, q⟩
  obtain ⟨t, rfl⟩ := (show ∃ t, u = Value.int i t from rx)
  obtain ⟨t', rfl⟩ := (show ∃ t', v = Value.int j t' from ry)
  exact PyProof.Rows.iadd_int ⟨.int (i + j), H, I.tok _, ⟨_, rfl⟩, q⟩
theorem in_sub : InOp X .Sub rSub := by
  rintro pins s σ H x y u v Q I rx ry ⟨i, j, rfl, rfl, q⟩
  obtain ⟨t, rfl⟩ := (show ∃ t, u = Value.int i t from rx)
  obtain ⟨t', rfl⟩ := (show ∃ t', v = Value.int j t' from ry)
  exact PyProof.Rows.isub_int ⟨.int (i - j), H, I.tok _, ⟨_, rfl⟩, q⟩

/-- what is between an instance and its method: the tree of a method call -/
theorem methcall_of {pl : Sem Bool} {m : Str} {apos : Pos} {args : List Expr} {pins : List (Addr × Obj)} {s : Shared} {σ : St} {H : Hp} {Q : Value → Shared → Prop} {te : TE} (he : PE X e te) (I : Inv X pins σ H s)
    (h : te σ H fun x H1 => ∃ a C dx fs g, x = .ref a ∧ H1 a = some (.ins C dx fs) ∧ Cls X.K C ∧ Meth X.K C m g ∧ fs.lookup m = none ∧
      ∀ s1, Inv X pins σ H1 s1 → wpAny (model X.prog X.w) X.A (callWith pos (.ref g) [.ref a] (backTo pos (starEach args X.env)) (backToKw pos (keywordEach [] X.env))) Q X.xe s1)
    (ht : eval (.Call (.Attribute e m apos) args [] pos) X.env = (do
      let ov ← eval e X.env
      standAt apos.atName
      let (f, first) ← holding [ov] (getMethod ov m pl)
      callWith pos f first (backTo pos (starEach args X.env)) (backToKw pos (keywordEach [] X.env)))) :
    wpAny (model X.prog X.w) X.A (eval (.Call (.Attribute e m apos) args [] pos) X.env) Q X.xe s := by
  refine PySem.W.methodCall_KW (pl := pl) (thn (he pins s σ H _ I h) fun u s1 ⟨x, H1, I1, rx, a, C, dx, fs, g, ex, ea, c, k, l, q⟩ => ?_) ht
  subst ex
  obtain rfl : u = Value.ref a := rx
  exact getmeth_ok I1 ea c k l (q s1 I1)
end

/-! ### isinstance -/
section
variable {X : Cx} {pins : List (Addr × Obj)} {σ : St} {H : Hp} {s : Shared} {A : Around} {E : Value → Shared → Prop} {Q : Value → Shared → Prop} {c : Value} {b : Bool}
/-- the type of a value, as the fragment's deciders take it; for an instance its class -/
inductive TyOf (K : PySem.W.Frag) (H : Hp) : V → Value → Prop where
  | non : TyOf K H .non (.type "NoneType")
  | bl (x : Bool) : TyOf K H (.bl x) (.type "bool")
  | int (i : Int) : TyOf K H (.int i) (.type "int")
  | str (x : Str) : TyOf K H (.str x) (.type "str")
  | flt (x : UInt64) : TyOf K H (.flt x) (.type "float")
  | lst {a : Addr} {xs : List V} (e : H a = some (.lst xs)) : TyOf K H (.ref a) (.type "list")
  | frz {a : Addr} {o : Obj} {xs : List V} (e : H a = some (.frz o (.lst xs))) : TyOf K H (.ref a) (.type "list")
  | tup {a : Addr} {xs : List V} (e : H a = some (.tup xs)) : TyOf K H (.ref a) (.type "tuple")
  | dK {a : Addr} {kvs : List (Key × V)} (e : H a = some (.dK kvs)) : TyOf K H (.ref a) (.type "dict")
  | dT {a : Addr} {kvs : List (List Key × V)} (e : H a = some (.dT kvs)) : TyOf K H (.ref a) (.type "dict")
  | ins {a C dx : Addr} {fs : List (Str × V)} (e : H a = some (.ins C dx fs)) (cl : Cls K C) (ha : PySem.W.findIn K (.ref C) "__class__" = some (some (.builtin "object.__class__")))
      (hn : PySem.W.specialIn K (.builtin "object.__class__") "__get__" = some (some (.builtin "getset_descriptor.__get__"))) (htk : PySem.W.takesIn K (.builtin "object.__class__") = some true)
      (hm : PySem.W.mroIn K C (.type "object") = some true) : TyOf K H (.ref a) (.ref C)
/-- isinstance(x, c) for one class c, a built-in or an own one: kitOne's answer -/
theorem isinst_ok {x : V} {u t : Value} (I : Inv X pins σ H s) (rx : RelV x u) (ty : TyOf X.K H x t) (e : PySem.W.kitOne X.K t c = some b) (h : ∀ tk, Q (.bool b) { s with toks := tk }) :
    wpAny (model X.prog X.w) A (call (.builtin "isinstance") [u, c]) Q E s := by
  cases ty with
  | non => cases (show u = Value.none from rx); exact PySem.W.kia_one PySem.W.kitx_none I.kIn True.intro e (fun z => nomatch z) h
  | bl y => cases (show u = Value.bool y from rx); exact PySem.W.kia_one PySem.W.kitx_bool I.kIn True.intro e (fun z => nomatch z) h
  | int i => obtain ⟨t, q⟩ := (show ∃ t, u = Value.int i t from rx); cases q; exact PySem.W.kia_one PySem.W.kitx_int I.kIn True.intro e (fun z => nomatch z) h
  | str y => obtain ⟨t, q⟩ := (show ∃ t, u = Value.str y t from rx); cases q; exact PySem.W.kia_one PySem.W.kitx_str I.kIn True.intro e (fun z => nomatch z) h
  | flt y => obtain ⟨t, q⟩ := (show ∃ t, u = Value.float y t from rx); cases q; exact PySem.W.kia_one PySem.W.kitx_float I.kIn True.intro e (fun z => nomatch z) h
  | @lst a xs ea =>
    cases (show u = Value.ref a from rx)
    obtain ⟨_, _, n, _, h1⟩ := (show ObjOk X.prog X.w H s.heap a (.lst xs) from I.hok a _ ea)
    exact PySem.W.kia_one PySem.W.kitx_list I.kIn ⟨_, h1, rfl⟩ e (fun z => nomatch z) h
  | @frz a ob xs ea =>
    cases (show u = Value.ref a from rx)
    obtain ⟨_, _, _, n, _, h1⟩ := (show ObjOk X.prog X.w H s.heap a (.frz ob (.lst xs)) from I.hok a _ ea)
    exact PySem.W.kia_one PySem.W.kitx_list I.kIn ⟨_, h1, rfl⟩ e (fun z => nomatch z) h
  | @tup a xs ea =>
    cases (show u = Value.ref a from rx)
    obtain ⟨_, _, _, p⟩ := (show ObjOk X.prog X.w H s.heap a (.tup xs) from I.hok a _ ea)
    obtain ⟨o, h1, h2, _⟩ := p
    exact PySem.W.kia_one PySem.W.kitx_tuple I.kIn ⟨o, h1, h2⟩ e (fun z => nomatch z) h
  | @dK a kvs ea =>
    cases (show u = Value.ref a from rx)
    obtain ⟨_, _, vs, _, p⟩ := (show ObjOk X.prog X.w H s.heap a (.dK kvs) from I.hok a _ ea)
    obtain ⟨o, es, ep, h1, h2, _⟩ := p
    exact PySem.W.kia_one PySem.W.kitx_dict I.kIn ⟨o, h1, h2.1⟩ e (fun z => nomatch z) h
  | @dT a kvs ea =>
    cases (show u = Value.ref a from rx)
    obtain ⟨_, _, xs, _, o, es, ep, h1, h2, _⟩ := (show ObjOk X.prog X.w H s.heap a (.dT kvs) from I.hok a _ ea)
    exact PySem.W.kia_one PySem.W.kitx_dict I.kIn ⟨o, h1, h2.1⟩ e (fun z => nomatch z) h
  | @ins a C dx fs ea cl ha hn htk hm =>
    cases (show u = Value.ref a from rx)
    obtain ⟨mA, O, _⟩ := ins_get I.hok ea
    obtain ⟨od, J, _⟩ := O.look
    exact PySem.W.kia_one (PySem.W.kitx_own (cl.get _) cl.hd ha hn htk hm) I.kIn J e (fun z => nomatch z) h
end
end L2

namespace L2
open PySem PySem.Spec PyProof.Rows

/-! ### room -/
structure Room (k : Nat) (A : Around) : Prop where
  hd : A.handled = none
  dp : A.depth + 3 * k + 5 < recursionLimit
  un : A.units + 16 * k + 200 < cLine
theorem Room.mono {j k : Nat} {A : Around} (r : Room k A) (h : j ≤ k) : Room j A := ⟨r.hd, by have := r.dp; omega, by have := r.un; omega⟩
theorem Room.deeper {k : Nat} {A : Around} (r : Room (k + 1) A) (env : Env) : Room k (A.deeper env) :=
  ⟨r.hd, by have := r.dp; show A.depth + 1 + 3 * k + 5 < _; omega, by have := r.un; show A.units + 3 + 16 * k + 200 < _; omega⟩
theorem Room.in1 {k : Nat} {A : Around} (r : Room (k + 1) A) : Room k A.in1 :=
  ⟨r.hd, by have := r.dp; show A.depth + 3 * k + 5 < _; omega, by have := r.un; show A.units + 1 + 16 * k + 200 < _; omega⟩
theorem make_depth {A : Around} {C : Addr} {us : List Value} {kw : List (Str × Value)} : (A.under (.builtin "type.__call__" ⟨.ref C :: us, kw⟩)).depth = A.depth + 1 := by
  first | rfl | simp [Around.under, Code.weight, Code.isCreation, Code.isGuard, Code.isCaller, Code.frames, Code.isFrame, guardIds]
theorem make_units {A : Around} {C : Addr} {us : List Value} {kw : List (Str × Value)} : (A.under (.builtin "type.__call__" ⟨.ref C :: us, kw⟩)).units = A.units + 1 := by
  first | rfl | simp [Around.under, Code.cUnits, Code.frames, Code.isFrame]
theorem Room.make {k : Nat} {A : Around} (r : Room (k + 1) A) (C : Addr) (us : List Value) (kw : List (Str × Value)) : Room k (A.under (.builtin "type.__call__" ⟨.ref C :: us, kw⟩)) :=
  ⟨r.hd, by have := r.dp; rw [make_depth]; omega, by have := r.un; rw [make_units]; omega⟩
theorem Room.depth {k : Nat} {A : Around} (r : Room k A) : A.depth < recursionLimit := by have := r.dp; omega
theorem Room.units {k : Nat} {A : Around} (r : Room k A) : A.units + 64 < cLine := by have := r.un; omega
theorem Room.units0 {k : Nat} {A : Around} (r : Room k A) : A.units < cLine := by have := r.un; omega

/-! ### argument lists and displays -/
def tNil : TA := fun _ H Q => Q [] H
def tCons (ta : TE) (tr : TA) : TA := fun σ H Q => ta σ H fun x H1 => tr σ H1 fun xs H2 => Q (x :: xs) H2
section
variable {X : Cx} {e : Expr} {es : List Expr} {te : TE} {t : TA} {pos : Pos}
theorem pa_nil : PA X [] tNil := fun _ _ _ _ H Q I h => Calls.spliced_nil ⟨[], H, I, .nil, h⟩
theorem pa_cons (ha : PE X e te) (hr : PA X es t) (hs : starEach (e :: es) X.env = (false, eval e X.env) :: starEach es X.env := by rfl) : PA X (e :: es) (tCons te t) := by
  intro pos pins s σ H Q I h
  rw [hs]
  show wpAny _ _ (spliced ((false, eval e X.env) :: backTo pos (starEach es X.env))) _ _ s
  refine Calls.spliced_cons (thn (ha pins s σ H _ I h) fun u s1 ⟨x, H1, I1, r1, q1⟩ => ?_)
  exact thn (hr pos pins s1 σ H1 _ I1 q1) fun us s2 ⟨xs, H2, I2, r2, q2⟩ => ⟨x :: xs, H2, I2, .cons r1 r2, q2⟩

/-- a tuple, a list of written items -/
def tTup (t : TA) : TE := fun σ H Q => t σ H fun xs H1 => xs.length ≤ sizeLine ∧ ∀ p, H1 p = none → Q (.ref p) (upd H1 p (.tup xs))
def tLst (t : TA) : TE := fun σ H Q => t σ H fun xs H1 => xs.length ≤ sizeLine ∧ ∀ p, H1 p = none → Q (.ref p) (upd H1 p (.lst xs))
theorem pe_tup {x1} (h : PA X es t) : PE X (.Tuple es x1 pos) (tTup t) := by
  intro pins s σ H Q I hq
  refine wpAny_Tuple_spliced (thn (h pos pins s σ H _ I hq) fun us s1 ⟨xs, H1, I1, r, z, q⟩ => ⟨by rw [← r.length]; exact z, ?_⟩)
  have hf : H1 s1.heap.objs.size = none := I1.hok.fresh (Nat.le_refl _)
  refine ⟨.ref s1.heap.objs.size, upd H1 s1.heap.objs.size (.tup xs), I1.laid (t' := s1.toks) (fun b u e => Heap.get?_push_of_some _ e) (Nat.le_refl _) ?_, rfl, q _ hf⟩
  exact ⟨z, us, r, ⟨_, Heap.get?_push_size _ rfl, rfl, _, rfl⟩⟩
theorem pe_lst (h : PA X es t) : PE X (.List es pos) (tLst t) := by
  intro pins s σ H Q I hq
  refine wpAny_List_spliced (thn (h pos pins s σ H _ I hq) fun us s1 ⟨xs, H1, I1, r, z, q⟩ => ⟨by rw [← r.length]; exact z, ?_⟩)
  have hf : H1 s1.heap.objs.size = none := I1.hok.fresh (Nat.le_refl _)
  refine ⟨.ref s1.heap.objs.size, upd H1 s1.heap.objs.size (.lst xs), I1.laid (t' := s1.toks) (fun b u e => Heap.get?_push_of_some _ e) (Nat.le_refl _) ?_, rfl, q _ hf⟩
  exact ⟨z, us, 0, r, Heap.get?_push_size _ rfl⟩
end

/-! ### what a def promises -/
/-- a def's promise: the bound arguments in the parameters' order, the heap, the wanted end, the wanted exception -/
abbrev Sp := List V → Hp → VK → XK → Prop
/-- how an exception lies behind a call (file 08 gives it): the callers' frames, abstract heap and state ahead of the call, the wish, the exception, the state -/
abbrev CXT := List Env → Hp → Shared → XK → Value → Shared → Prop

/-- the state at a call -/
structure Env0 (P : Program) (w : World) (K : PySem.W.Frag) (mg : Str → Option Value) (base : Heap) (A : Around) (outer : List Env) (s : Shared) (H : Hp) : Prop where
  frames : A.frames = some outer
  mod : Mod K mg base
  bs : ∀ b o, base.get? b = some o → s.heap.get? b = some o ∧ H b = none
  bsz : base.objs.size ≤ s.heap.objs.size
  funs : s.heap.FunFrames base outer
  frf : ∀ b ∈ frs outer, H b = none
  hok : HOk P w H s.heap
  bare : AllBare s.gens
/-- a call's end -/
def CE (outer : List Env) (P : Program) (w : World) (H : Hp) (s : Shared) (Q : VK) (u : Value) (s' : Shared) : Prop :=
  ∃ v H', s'.os = s.os ∧ AllBare s'.gens ∧ Un (frs outer) [] H H' s.heap s'.heap ∧ HOk P w H' s'.heap ∧ RelV v u ∧ Q v H'
def CR (CX : CXT) (outer : List Env) (P : Program) (w : World) (H : Hp) (s : Shared) (Q : VK) (E : XK) (r : Result) (s' : Shared) : Prop :=
  match r with
  | .ok (.ret u) => CE outer P w H s Q u s'
  | .ok _ => False
  | .error e => CX outer H s E e s'
structure FnOk (P : Program) (w : World) (K : PySem.W.Frag) (mg : Str → Option Value) (base : Heap) (CX : CXT) (k : Nat) (f : Addr) (fd : FuncData) (ps : List Str) (sp : Sp) : Prop where
  len : ∀ vs H Q E, sp vs H Q E → vs.length = ps.length
  run : ∀ (A : Around) (outer : List Env) (s : Shared) (H : Hp) (args : Args) (us : List Value) (vs : List V) (Q : VK) (E : XK), Room k A → Env0 P w K mg base A outer s H → BindsTo s fd args (ps.zip us) → Vals vs us → sp vs H Q E →
    codeAny (model P w) A (.call (.ref f) args) (CR CX outer P w H s Q E) s
theorem FnOk.mono {P : Program} {w : World} {K : PySem.W.Frag} {mg : Str → Option Value} {base : Heap} {CX : CXT} {j k : Nat} {f : Addr} {fd : FuncData} {ps : List Str} {sp : Sp} (F : FnOk P w K mg base CX j f fd ps sp) (h : j ≤ k) :
    FnOk P w K mg base CX k f fd ps sp := ⟨F.len, fun A outer s H args us vs Q E hr => F.run A outer s H args us vs Q E (hr.mono h)⟩
/-- a weaker promise -/
theorem FnOk.imp {P : Program} {w : World} {K : PySem.W.Frag} {mg : Str → Option Value} {base : Heap} {CX : CXT} {k : Nat} {f : Addr} {fd : FuncData} {ps : List Str} {sp sp' : Sp} (F : FnOk P w K mg base CX k f fd ps sp)
    (h : ∀ vs H Q E, sp' vs H Q E → sp vs H Q E) : FnOk P w K mg base CX k f fd ps sp' :=
  ⟨fun vs H Q E q => F.len vs H Q E (h _ _ _ _ q), fun A outer s H args us vs Q E hr he hb hv hs => F.run A outer s H args us vs Q E hr he hb hv (h _ _ _ _ hs)⟩

theorem Env0.make {P : Program} {w : World} {K : PySem.W.Frag} {mg : Str → Option Value} {base : Heap} {A : Around} {outer : List Env} {s : Shared} {H : Hp} (e : Env0 P w K mg base A outer s H) (C : Addr) (us : List Value) (kw : List (Str × Value)) :
    Env0 P w K mg base (A.under (.builtin "type.__call__" ⟨.ref C :: us, kw⟩)) outer s H := ⟨by first | exact e.frames | (simpa [Around.under, Code.envs, Code.isFrame, pushEnvs] using e.frames), e.mod, e.bs, e.bsz, e.funs, e.frf, e.hok, e.bare⟩
theorem Env0.in1 {P : Program} {w : World} {K : PySem.W.Frag} {mg : Str → Option Value} {base : Heap} {A : Around} {outer : List Env} {s : Shared} {H : Hp} (e : Env0 P w K mg base A outer s H) :
    Env0 P w K mg base A.in1 outer s H := ⟨e.frames, e.mod, e.bs, e.bsz, e.funs, e.frf, e.hok, e.bare⟩

section
variable {X : Cx} {pins : List (Addr × Obj)} {σ : St} {H : Hp} {s s' : Shared}
/-- from a body: what a callee wants -/
theorem Inv.env0 (I : Inv X pins σ H s) : Env0 X.prog X.w X.K X.mg X.base X.A X.stack s H :=
  ⟨I.ok.frames, I.ok.mod, I.bs, Nat.le_trans I.ok.bsz I.sz, I.stack, I.stkFree, I.hok, I.bare⟩
/-- behind a call -/
theorem Inv.after {Q : VK} {u : Value} (I : Inv X pins σ H s) (h : CE X.stack X.prog X.w H s Q u s') : EP X pins σ Q u s' := by
  obtain ⟨v, H', os, bare, un, hok, r, q⟩ := h
  obtain ⟨hh, g, d, t, os'⟩ := s'
  obtain rfl : os' = s.os := os
  exact ⟨v, H', I.call (h' := hh) (g' := g) (d' := d) (t' := t) (ch := []) un hok bare (fun b z => absurd z (by simp)), r, q⟩
end

/-! ### calls -/
/-- f(..): the written arguments, then the defaults dvs; E: what is wanted of an exception -/
def tCall (sp : Sp) (dvs : List V) (E : XK) (t : TA) : TE := fun σ H Q => t σ H fun vs H1 => sp (vs ++ dvs) H1 Q E
/-- o.m(..) of an instance of the class at C -/
def tMeth (C : Addr) (m : Str) (sp : Sp) (dvs : List V) (E : XK) (ta : TE) (t : TA) : TE := fun σ H Q => ta σ H fun x H1 => ∃ a dx fs, x = .ref a ∧ H1 a = some (.ins C dx fs) ∧ fs.lookup m = none ∧
  t σ H1 fun vs H2 => sp (x :: (vs ++ dvs)) H2 Q E
/-- C(..): a new instance and its dict, then __init__ -/
def tMake (C : Addr) (sp : Sp) (dvs : List V) (E : XK) (t : TA) : TE := fun σ H Q => t σ H fun vs H1 => ∀ x dx, H1 x = none → H1 dx = none → dx ≠ x →
  sp (.ref x :: (vs ++ dvs)) (upd (upd H1 dx (.own x)) x (.ins C dx [])) (fun v H2 => v = .non ∧ Q (.ref x) H2) E

/-- how the parameters are bound: us the positional arguments, kw the keywords' values by name, ds the defaults that fill up -/
def Binds (K : PySem.W.Frag) (fd : FuncData) (ps : List Str) (ds : List Value) : Prop :=
  ∀ (s : Shared) (us : List Value), K.In s.heap → (us ++ ds).length = ps.length → BindsTo s fd ⟨us, []⟩ (ps.zip (us ++ ds))
/-- every parameter is given -/
theorem Binds.all {K : PySem.W.Frag} {fd : FuncData} {ps : List Str} (h : ∀ us : List Value, us.length = ps.length → bindArgs fd ⟨us, []⟩ = pure (ps.zip us)) : Binds K fd ps [] := fun s us _ hl => by
  rw [List.append_nil] at hl ⊢
  exact .of_eq (h us hl)

/-- an exception of a callee reaches what this body wants of exceptions -/
def Passes (CX : CXT) (X : Cx) (E : XK) : Prop := ∀ (pins : List (Addr × Obj)) (σ : St) (H : Hp) (s : Shared) (e : Value) (s' : Shared), Inv X pins σ H s → CX X.stack H s E e s' → X.xe e s'

section
variable {X : Cx} {CX : CXT} {k : Nat} {f C : Addr} {fd : FuncData} {ps : List Str} {sp : Sp} {dvs : List V} {ds : List Value} {E : XK} {x m : Str} {p pos apos : Pos} {e o : Expr} {es : List Expr} {ta : TE} {t : TA}

/-- the callee runs -/
theorem run_fn {pins : List (Addr × Obj)} {σ : St} {H : Hp} {s : Shared} {Q : VK} {us : List Value} {vs : List V} (F : FnOk X.prog X.w X.K X.mg X.base CX k f fd ps sp) (hr : Room k X.A) (hb : Binds X.K fd ps ds) (hd : Vals dvs ds) (hx : Passes CX X E)
    (I : Inv X pins σ H s) (r : Vals vs us) (h : sp (vs ++ dvs) H Q E) : wpAny (model X.prog X.w) X.A (call (.ref f) us) (EP X pins σ Q) X.xe s := by
  have r2 : Vals (vs ++ dvs) (us ++ ds) := r.append hd
  have hl : (us ++ ds).length = ps.length := by rw [← r2.length]; exact F.len _ _ _ _ h
  refine wpAny_call (codeAny_mono (F.run X.A X.stack s H ⟨us, []⟩ (us ++ ds) (vs ++ dvs) Q E hr I.env0 (hb s us I.kIn hl) r2 h) fun r s' hq => ?_)
  cases r with
  | error e => exact hx pins σ H s e s' I hq
  | ok fl =>
    cases fl with
    | ret u => exact I.after hq
    | next => exact False.elim hq
    | brk => exact False.elim hq
    | cont => exact False.elim hq

theorem pe_call (F : FnOk X.prog X.w X.K X.mg X.base CX k f fd ps sp) (hr : Room k X.A) (hg : Gl X x) (hm : X.mg x = some (.ref f)) (hk : PySem.W.keepIn X.K (.ref f) = true) (hb : Binds X.K fd ps ds) (hd : Vals dvs ds) (hx : Passes CX X E)
    (ha : PA X (e :: es) t) (hdb : (x == ("__debug__" : Str)) = false := by decide) (he : starEach (e :: es) X.env = (false, eval e X.env) :: starEach es X.env := by rfl) (hpl : (backTo pos (starEach es X.env)).any (·.1) = false := by rfl) :
    PE X (.Call (.Name x p) (e :: es) [] pos) (tCall sp dvs E t) := by
  intro pins s σ H Q I h
  refine wpAny_Call_Name_kw (ld_glob I hg hm ?_ hdb)
  refine PySem.W.callWith_K (h₀ := X.base) I.ok.mod.kin hk (thn (ha pos pins s σ H _ I h) fun us s1 ⟨vs, H1, I1, r, q⟩ => ⟨I1.kIn, ?_⟩) he hpl
  exact run_fn F hr hb hd hx I1 r q
theorem pe_call0 (F : FnOk X.prog X.w X.K X.mg X.base CX k f fd ps sp) (hr : Room k X.A) (hg : Gl X x) (hm : X.mg x = some (.ref f)) (hk : PySem.W.keepIn X.K (.ref f) = true) (hb : Binds X.K fd ps ds) (hd : Vals dvs ds) (hx : Passes CX X E)
    (hdb : (x == ("__debug__" : Str)) = false := by decide) : PE X (.Call (.Name x p) [] [] pos) (tCall sp dvs E tNil) := by
  intro pins s σ H Q I h
  refine wpAny_Call_Name_kw (ld_glob I hg hm ?_ hdb)
  exact PySem.W.callWith_K0 I.kIn hk (run_fn (us := []) F hr hb hd hx I .nil h)

/-- o.m(e, ..) -/
theorem pe_meth {pl : Sem Bool} (he : PE X o ta) (c : Cls X.K C) (hm : Meth X.K C m f) (F : FnOk X.prog X.w X.K X.mg X.base CX k f fd ps sp) (hr : Room k X.A) (hb : Binds X.K fd ps ds) (hd : Vals dvs ds) (hx : Passes CX X E) (ha : PA X (e :: es) t)
    (hst : starEach (e :: es) X.env = (false, eval e X.env) :: starEach es X.env := by rfl) (hpl : (backTo pos (starEach es X.env)).any (·.1) = false := by rfl)
    (ht : eval (.Call (.Attribute o m apos) (e :: es) [] pos) X.env = (do
      let ov ← eval o X.env
      standAt apos.atName
      let (f, first) ← holding [ov] (getMethod ov m pl)
      callWith pos f first (backTo pos (starEach (e :: es) X.env)) (backToKw pos (keywordEach [] X.env))) := by rfl) :
    PE X (.Call (.Attribute o m apos) (e :: es) [] pos) (tMeth C m sp dvs E ta t) := by
  intro pins s σ H Q I h
  refine PySem.W.methodCall_KW (pl := pl) (thn (he pins s σ H _ I h) fun u s1 ⟨x, H1, I1, rx, a, dx, fs, ex, ea, l, q⟩ => ?_) ht
  subst ex
  obtain rfl : u = Value.ref a := rx
  refine getmeth_ok I1 ea c hm l ?_
  refine PySem.W.callWith_K (first := [.ref a]) (h₀ := X.base) I.ok.mod.kin hm.kp (thn (ha pos pins s1 σ H1 _ I1 q) fun us s2 ⟨vs, H2, I2, r, q2⟩ => ⟨I2.kIn, ?_⟩) hst hpl
  exact run_fn (us := .ref a :: us) (vs := .ref a :: vs) F hr hb hd hx I2 (.cons rfl r) q2
/-- o.m() -/
theorem pe_meth0 {pl : Sem Bool} (he : PE X o ta) (c : Cls X.K C) (hm : Meth X.K C m f) (F : FnOk X.prog X.w X.K X.mg X.base CX k f fd ps sp) (hr : Room k X.A) (hb : Binds X.K fd ps ds) (hd : Vals dvs ds) (hx : Passes CX X E)
    (ht : eval (.Call (.Attribute o m apos) [] [] pos) X.env = (do
      let ov ← eval o X.env
      standAt apos.atName
      let (f, first) ← holding [ov] (getMethod ov m pl)
      callWith pos f first (backTo pos (starEach [] X.env)) (backToKw pos (keywordEach [] X.env))) := by rfl) :
    PE X (.Call (.Attribute o m apos) [] [] pos) (tMeth C m sp dvs E ta tNil) := by
  intro pins s σ H Q I h
  refine PySem.W.methodCall_KW (pl := pl) (thn (he pins s σ H _ I h) fun u s1 ⟨x, H1, I1, rx, a, dx, fs, ex, ea, l, q⟩ => ?_) ht
  subst ex
  obtain rfl : u = Value.ref a := rx
  refine getmeth_ok I1 ea c hm l ?_
  exact PySem.W.callWith_K0 (first := [.ref a]) I1.kIn hm.kp (run_fn (us := [.ref a]) (vs := [.ref a]) F hr hb hd hx I1 (.cons rfl .nil) q)

/-- what a class must have to be made -/
structure Mk (K : PySem.W.Frag) (C f : Addr) : Prop where
  makes : PySem.W.makesIn K C = true
  init : PySem.W.findIn K (.ref C) "__init__" = some (some (.ref f))
  fn : PySem.W.isFn K (.ref f) = true
  kp : PySem.W.keepIn K (.ref C) = true

theorem run_make {pins : List (Addr × Obj)} {σ : St} {H : Hp} {s : Shared} {Q : VK} {us : List Value} {vs : List V} (M : Mk X.K C f) (F : FnOk X.prog X.w X.K X.mg X.base CX k f fd ps sp) (hr : Room (k + 1) X.A) (hb : Binds X.K fd ps ds) (hd : Vals dvs ds)
    (hx : Passes CX X E) (I : Inv X pins σ H s) (r : Vals vs us)
    (h : ∀ x dx, H x = none → H dx = none → dx ≠ x → sp (.ref x :: (vs ++ dvs)) (upd (upd H dx (.own x)) x (.ins C dx [])) (fun v H2 => v = .non ∧ Q (.ref x) H2) E) :
    wpAny (model X.prog X.w) X.A (call (.ref C) us) (EP X pins σ Q) X.xe s := by
  have hq := h (s.heap.objs.size + 1) s.heap.objs.size (I.hok.fresh (Nat.le_succ _)) (I.hok.fresh (Nat.le_refl _)) (Nat.ne_of_lt (Nat.lt_succ_self _))
  have I2 := Inv.made (C := C) I
  have r2 : Vals (V.ref (s.heap.objs.size + 1) :: (vs ++ dvs)) (Value.ref (s.heap.objs.size + 1) :: (us ++ ds)) := .cons rfl (r.append hd)
  have hl : (Value.ref (s.heap.objs.size + 1) :: us ++ ds).length = ps.length := by
    have e := r2.length
    rw [F.len _ _ _ _ hq] at e
    exact e.symm
  refine wpAny_call (make_map (f := f) I.kIn M.makes M.init (beq_iff_eq.mp M.fn) (codeAny_mono (F.run _ X.stack _ _ ⟨Value.ref (s.heap.objs.size + 1) :: us, []⟩ (Value.ref (s.heap.objs.size + 1) :: (us ++ ds)) _ _ E (hr.make C us [])
    (I2.env0.make C us []) (hb _ (Value.ref (s.heap.objs.size + 1) :: us) I2.kIn hl) r2 hq) fun r s' hq' => ?_))
  cases r with
  | error e => exact hx pins σ _ _ e s' I2 hq'
  | ok fl =>
    cases fl with
    | ret u =>
      obtain ⟨v, H', I3, rv, ev, q3⟩ := I2.after hq'
      subst ev
      exact ⟨rv, ⟨V.ref (s.heap.objs.size + 1), H', I3, rfl, q3⟩⟩
    | next => exact False.elim hq'
    | brk => exact False.elim hq'
    | cont => exact False.elim hq'
theorem pe_make (M : Mk X.K C f) (F : FnOk X.prog X.w X.K X.mg X.base CX k f fd ps sp) (hr : Room (k + 1) X.A) (hg : Gl X x) (hm : X.mg x = some (.ref C)) (hb : Binds X.K fd ps ds) (hd : Vals dvs ds) (hx : Passes CX X E)
    (ha : PA X (e :: es) t) (hdb : (x == ("__debug__" : Str)) = false := by decide) (he : starEach (e :: es) X.env = (false, eval e X.env) :: starEach es X.env := by rfl) (hpl : (backTo pos (starEach es X.env)).any (·.1) = false := by rfl) :
    PE X (.Call (.Name x p) (e :: es) [] pos) (tMake C sp dvs E t) := by
  intro pins s σ H Q I h
  refine wpAny_Call_Name_kw (ld_glob I hg hm ?_ hdb)
  refine PySem.W.callWith_K (h₀ := X.base) I.ok.mod.kin M.kp (thn (ha pos pins s σ H _ I h) fun us s1 ⟨vs, H1, I1, r, q⟩ => ⟨I1.kIn, ?_⟩) he hpl
  exact run_make M F hr hb hd hx I1 r q
theorem pe_make0 (M : Mk X.K C f) (F : FnOk X.prog X.w X.K X.mg X.base CX k f fd ps sp) (hr : Room (k + 1) X.A) (hg : Gl X x) (hm : X.mg x = some (.ref C)) (hb : Binds X.K fd ps ds) (hd : Vals dvs ds) (hx : Passes CX X E)
    (hdb : (x == ("__debug__" : Str)) = false := by decide) : PE X (.Call (.Name x p) [] [] pos) (tMake C sp dvs E tNil) := by
  intro pins s σ H Q I h
  refine wpAny_Call_Name_kw (ld_glob I hg hm ?_ hdb)
  exact PySem.W.callWith_K0 I.kIn M.kp (run_make (us := []) M F hr hb hd hx I .nil h)
end

/-! ### keywords -/
/-- the values of the keywords, from the left -/
def PK (X : Cx) (kws : List Keyword) (t : TA) : Prop :=
  ∀ (pos : Pos) (pins : List (Addr × Obj)) (s : Shared) (σ : St) (H : Hp) (Q : List V → Hp → Prop), Inv X pins σ H s → t σ H Q → wpAny (model X.prog X.w) X.A (evalAll ((backToKw pos (keywordEach kws X.env)).map (·.2))) (AP X pins σ Q) X.xe s
section
variable {X : Cx} {CX : CXT} {k : Nat} {f C : Addr} {fd : FuncData} {ps ks : List Str} {sp : Sp} {E : XK} {x m : Str} {p pos apos kpos : Pos} {e o : Expr} {es : List Expr} {kws : List Keyword} {te ta : TE} {t tk : TA} {nm : Option Str}
theorem pk_nil : PK X [] tNil := fun _ _ _ _ H Q I h => wpAny_evalAll_nil ⟨[], H, I, .nil, h⟩
theorem pk_cons (ha : PE X e te) (hr : PK X kws t) : PK X (⟨nm, e, kpos⟩ :: kws) (tCons te t) := by
  intro pos pins s σ H Q I h
  show wpAny _ _ (evalAll ((do let v ← eval e X.env; standAt pos; pure v) :: (backToKw pos (keywordEach kws X.env)).map (·.2))) _ _ s
  refine wpAny_evalAll_cons (wpAny_bind (thn (ha pins s σ H _ I h) fun u s1 ⟨x, H1, I1, r1, q1⟩ => wpAny_bind (wpAny_standAt (wpAny_pure ?_))))
  exact thn (hr pos pins s1 σ H1 _ I1 q1) fun us s2 ⟨xs, H2, I2, r2, q2⟩ => ⟨x :: xs, H2, I2, .cons r1 r2, q2⟩

/-- how a call with keywords binds: g puts the positional values us and the keywords' values ws (names ks) in the parameters' order, defaults among them -/
structure KBinds (K : PySem.W.Frag) (fd : FuncData) (ps ks : List Str) (g : List Value → List Value → List Value) (gV : List V → List V → List V) : Prop where
  to : ∀ (s : Shared) (us ws : List Value), K.In s.heap → (g us ws).length = ps.length → BindsTo s fd ⟨us, ks.zip ws⟩ (ps.zip (g us ws))
  rel : ∀ {vs : List V} {us : List Value} {zs : List V} {ws : List Value}, Vals vs us → Vals zs ws → Vals (gV vs zs) (g us ws)
def tCallK (sp : Sp) (gV : List V → List V → List V) (E : XK) (t tk : TA) : TE := fun σ H Q => t σ H fun vs H1 => tk σ H1 fun zs H2 => sp (gV vs zs) H2 Q E
variable {g : List Value → List Value → List Value} {gV : List V → List V → List V}
theorem run_fnk {pins : List (Addr × Obj)} {σ : St} {H : Hp} {s : Shared} {Q : VK} {us ws : List Value} {vs zs : List V} (F : FnOk X.prog X.w X.K X.mg X.base CX k f fd ps sp) (hr : Room k X.A) (hb : KBinds X.K fd ps ks g gV) (hx : Passes CX X E)
    (I : Inv X pins σ H s) (r : Vals vs us) (rz : Vals zs ws) (h : sp (gV vs zs) H Q E) : wpAny (model X.prog X.w) X.A (call (.ref f) us (ks.zip ws)) (EP X pins σ Q) X.xe s := by
  have r2 := hb.rel r rz
  have hl : (g us ws).length = ps.length := by rw [← r2.length]; exact F.len _ _ _ _ h
  refine wpAny_call (codeAny_mono (F.run X.A X.stack s H ⟨us, ks.zip ws⟩ (g us ws) (gV vs zs) Q E hr I.env0 (hb.to s us ws I.kIn hl) r2 h) fun r s' hq => ?_)
  cases r with
  | error e => exact hx pins σ H s e s' I hq
  | ok fl =>
    cases fl with
    | ret u => exact I.after hq
    | next => exact False.elim hq
    | brk => exact False.elim hq
    | cont => exact False.elim hq
/-- f(e, .., k = v, ..) -/
theorem pe_callK (F : FnOk X.prog X.w X.K X.mg X.base CX k f fd ps sp) (hr : Room k X.A) (hg : Gl X x) (hm : X.mg x = some (.ref f)) (hk : PySem.W.keepIn X.K (.ref f) = true) (hb : KBinds X.K fd ps ks g gV) (hx : Passes CX X E)
    (ha : PA X (e :: es) t) (hkw : PK X kws tk) (hall : (backToKw pos (keywordEach kws X.env)).all (·.1.isSome) = true := by rfl) (hks : (backToKw pos (keywordEach kws X.env)).filterMap (·.1) = ks := by rfl)
    (hdb : (x == ("__debug__" : Str)) = false := by decide) (he : starEach (e :: es) X.env = (false, eval e X.env) :: starEach es X.env := by rfl)
    (hpl : ((backTo pos (starEach (e :: es) X.env)).any (·.1) || (backToKw pos (keywordEach kws X.env)).any (·.1.isNone)) = false := by rfl) :
    PE X (.Call (.Name x p) (e :: es) kws pos) (tCallK sp gV E t tk) := by
  intro pins s σ H Q I h
  refine wpAny_Call_Name_kw (ld_glob I hg hm ?_ hdb)
  refine PySem.W.callWith_KW (h₀ := X.base) I.ok.mod.kin hk hall (thn (ha pos pins s σ H _ I h) fun us s1 ⟨vs, H1, I1, r, q⟩ => ?_) hpl he
  refine thn (hkw pos pins s1 σ H1 _ I1 q) fun ws s2 ⟨zs, H2, I2, rz, q2⟩ => ⟨I2.kIn, ?_⟩
  rw [hks]
  exact run_fnk F hr hb hx I2 r rz q2
end

/-! ### a def's body keeps its promise -/
/-- names: the parameters first -/
structure FnScope (N P : List Str) (sc : Scope) : Prop where
  kind : sc.kind = .function
  co : sc.isCoroutine = false
  gen : sc.isGenerator = false
  nd : N.Nodup
  pre : N.take P.length = P
  par : ∀ x ∈ P, sc.names.lookup x = some .local ∨ sc.names.lookup x = some .cell
  nofree : ∀ y ∈ sc.names, y.2 ≠ .free

theorem bindL_out {kindOf : Str → Option NameKind} {x : Str} : ∀ {binds : List (Str × Value)} {m : Str → Option Value}, (∀ v, (x, v) ∉ binds) → bindL kindOf binds m x = m x
  | [], _, _ => rfl
  | (n, v) :: r, m, h => by
    unfold bindL
    rw [bindL_out fun w hw => h w (List.mem_cons_of_mem _ hw)]
    split
    · have : x ≠ n := by rintro rfl; exact h v List.mem_cons_self
      simp [this]
    · rfl
theorem bindC_out {kindOf : Str → Option NameKind} {x : Str} : ∀ {binds : List (Str × Value)} {m : Str → Option Value}, (∀ v, (x, v) ∉ binds) → bindC kindOf binds m x = m x
  | [], _, _ => rfl
  | (n, v) :: r, m, h => by
    unfold bindC
    rw [bindC_out fun w hw => h w (List.mem_cons_of_mem _ hw)]
    split
    · rfl
    · have : x ≠ n := by rintro rfl; exact h v List.mem_cons_self
      simp [this]
theorem bindL_get {kindOf : Str → Option NameKind} {x : Str} {v : Value} : ∀ {P : List Str} {vs : List Value} {i : Nat} {m : Str → Option Value}, P.Nodup → P[i]? = some x → vs[i]? = some v → kindOf x = some .local →
    bindL kindOf (P.zip vs) m x = some v
  | [], _, _, _, _, h, _, _ => by simp at h
  | _ :: _, [], _, _, _, _, h, _ => by simp at h
  | p :: P, w :: vs, 0, m, nd, h1, h2, hk => by
    simp at h1 h2; subst h1; subst h2
    show bindL kindOf ((p, w) :: P.zip vs) m p = _
    unfold bindL
    rw [bindL_out fun v hv => (List.nodup_cons.mp nd).1 (List.of_mem_zip hv).1, if_pos hk]
    simp
  | p :: P, w :: vs, i + 1, m, nd, h1, h2, hk => by
    show bindL kindOf ((p, w) :: P.zip vs) m x = _
    unfold bindL
    exact bindL_get (i := i) (List.nodup_cons.mp nd).2 (by simpa using h1) (by simpa using h2) hk
theorem bindC_get {kindOf : Str → Option NameKind} {x : Str} {v : Value} : ∀ {P : List Str} {vs : List Value} {i : Nat} {m : Str → Option Value}, P.Nodup → P[i]? = some x → vs[i]? = some v → kindOf x ≠ some .local →
    bindC kindOf (P.zip vs) m x = some v
  | [], _, _, _, _, h, _, _ => by simp at h
  | _ :: _, [], _, _, _, _, h, _ => by simp at h
  | p :: P, w :: vs, 0, m, nd, h1, h2, hk => by
    simp at h1 h2; subst h1; subst h2
    show bindC kindOf ((p, w) :: P.zip vs) m p = _
    unfold bindC
    rw [bindC_out fun v hv => (List.nodup_cons.mp nd).1 (List.of_mem_zip hv).1, if_neg hk]
    simp
  | p :: P, w :: vs, i + 1, m, nd, h1, h2, hk => by
    show bindC kindOf ((p, w) :: P.zip vs) m x = _
    unfold bindC
    exact bindC_get (i := i) (List.nodup_cons.mp nd).2 (by simpa using h1) (by simpa using h2) hk

/-- the names' values at the entry -/
def start (N : List Str) (vs : List V) : St := vs.map some ++ List.replicate (N.length - vs.length) none

/-- the context of a def's body, at its entry; an exception leaves the frame, then lies as CX says -/
def cxOf (CX : CXT) (P : Program) (w : World) (K : PySem.W.Frag) (mg : Str → Option Value) (base : Heap) (N : List Str) (qual : Str) (scope : Scope) (f : Addr) (cd : Value) (A : Around) (outer : List Env) (s : Shared) (H : Hp) (E : XK) : Cx where
  prog := P
  w := w
  K := K
  mg := mg
  base := base
  A := A.deeper (envOfC qual scope s.heap.objs.size f cd)
  N := N
  s₀ := s
  H₀ := H
  env := envOfC qual scope s.heap.objs.size f cd
  outer := outer
  stack := envOfC qual scope s.heap.objs.size f cd :: outer
  ex := []
  calm := true
  fn := fun _ => true
  pn := []
  xe := fun e s' => wpAny (model P w) (A.deeper (envOfC qual scope s.heap.objs.size f cd)) (leaving (envOfC qual scope s.heap.objs.size f cd) e) (fun _ s'' => CX outer H s E e s'') (fun e' s'' => CX outer H s E e' s'') s'

theorem cell_has {sc : Scope} {n : Nat} {x : Str} (h : sc.names.lookup x = some .cell) : ∃ c, (cellsFrom n sc.names []).lookup x = some c := by
  have q := PySem.W.cellsFrom_some sc.names n [] (.inl h)
  exact Option.isSome_iff_exists.mp q

theorem inv_start {CX : CXT} {P : Program} {w : World} {K : PySem.W.Frag} {mg : Str → Option Value} {base : Heap} {N ps : List Str} {qual : Str} {scope : Scope} {f : Addr} {cd : Value} {A : Around} {outer : List Env} {s s1 : Shared} {H : Hp} {E : XK} {us : List Value} {vs : List V}
    (S : FnScope N ps scope) (hd : A.handled = none) (e0 : Env0 P w K mg base A outer s H) (hl : vs.length = ps.length) (r : Vals vs us)
    (x : InCallC s s.heap.objs.size (bindL (envOfC qual scope s.heap.objs.size f cd).kindOf (ps.zip us) fun _ => none) (cellsFrom (s.heap.objs.size + 1) scope.names []) (bindC (envOfC qual scope s.heap.objs.size f cd).kindOf (ps.zip us) fun _ => none) s1) :
    Inv (cxOf CX P w K mg base N qual scope f cd A outer s H E) [] (start N vs) H s1 := by
  have hpl : ps.length ≤ N.length := by have := congrArg List.length S.pre; rw [List.length_take] at this; omega
  obtain ⟨h1, tk, rfl, hk⟩ := x.done
  have noA : ∀ b : Addr, b ∉ (cxOf CX P w K mg base N qual scope f cd A outer s H E).ex := fun b z => absurd (show b ∈ ([] : List Addr) from z) (by simp)
  refine ⟨⟨e0.mod, S.kind, rfl, rfl, Nat.le_refl _, fun y z c h1 h2 => ?_, fun y hy => ?_, fun y c _ h => ?_, fun _ => hd, Around.frames_deeper e0.frames, .inr ⟨rfl, rfl⟩, fun b z => absurd z (noA b), e0.bs, e0.bsz, fun b _ _ => noA b, fun b z => absurd z (noA b), e0.funs, e0.frf⟩,
    rfl, e0.bare, Un.kept hk, ⟨_, x.toInCall.ns, fun i y v h1 h2 h3 => ?_⟩, fun y c h => ⟨_, x.cell y c h⟩, e0.hok.fresh (Nat.le_refl _), fun y c h => ?_, fun p hp => absurd (show p ∈ ([] : List (Addr × Obj)) from hp) (by simp), e0.hok.kept hk, ?_⟩
  · exact name_of_addr x.apart (PySem.mem_of_lookup h1) (PySem.mem_of_lookup h2)
  · have hy : scope.names.lookup y = some .cell ∨ scope.names.lookup y = some .free := hy
    rcases hy with hy | hy
    · exact cell_has hy
    · exact absurd rfl (S.nofree _ (PySem.mem_of_lookup hy))
  · exact Nat.le_of_lt (x.above y c (PySem.mem_of_lookup h))
  · have hi : i < vs.length := by
      unfold start at h2
      by_cases hi : i < vs.length
      · exact hi
      · rw [List.getElem?_append_right (by simpa using hi)] at h2
        rw [List.getElem?_replicate] at h2
        split at h2 <;> cases h2
    have ha : vs[i]? = some v := by
      unfold start at h2
      rw [List.getElem?_append_left (by simpa using hi), List.getElem?_map] at h2
      cases e : vs[i]? with
      | none => rw [e] at h2; cases h2
      | some a => rw [e] at h2; cases h2; rfl
    obtain ⟨u, hu, rv⟩ := r.get ha
    have hp : ps[i]? = some y := by
      rw [← S.pre, List.getElem?_take_of_lt (by omega)]; exact h1
    have ndP : ps.Nodup := by rw [← S.pre]; exact S.nd.sublist (List.take_sublist _ _)
    refine ⟨u, rv, ?_⟩
    rcases S.par y (List.mem_of_getElem? hp) with k | k
    · exact .inl ⟨k, bindL_get ndP hp hu k⟩
    · obtain ⟨c, e⟩ := cell_has (n := s.heap.objs.size + 1) k
      refine .inr ⟨.inl k, c, e, ?_⟩
      have q := x.cell y c e
      rw [bindC_get ndP hp hu (by show scope.names.lookup y ≠ _; rw [k]; decide)] at q
      exact q
  · exact e0.hok.fresh (Nat.le_of_lt (x.above y c (PySem.mem_of_lookup h)))
  · unfold start
    show _ = N.length
    rw [List.length_append, List.length_map, List.length_replicate]
    omega

/-- THE RULE: a def (or a method) of the text, by its body. The body's reading t is chosen for each entry; it is run at the parameters' values -/
theorem fn_of {CX : CXT} {P : Program} {w : World} {K : PySem.W.Frag} {mg : Str → Option Value} {base : Heap} {k : Nat} {f : Addr} {name qual : Str} {params : Arguments} {body : List Stmt} {scope : Scope} {dV kV doc pm cdv ct oc : Value} {an od : Option Addr}
    {osl : Array (Option Value)} {N ps : List Str} {sp : Sp} (lk : K.lookup f = some ⟨oc, od, .func (PySem.W.fnOf name qual params body scope dV kV doc pm an cdv ct), osl⟩) (hcd : PySem.W.codeIn K cdv qual = true) (S : FnScope N ps scope)
    (len : ∀ vs H Q E, sp vs H Q E → vs.length = ps.length)
    (hbody : ∀ (A : Around) (outer : List Env) (s : Shared) (H : Hp) (vs : List V) (Q : VK) (E : XK), Room k (A.deeper (envOfC qual scope s.heap.objs.size f cdv)) → sp vs H Q E →
      ∃ t, PSs (cxOf CX P w K mg base N qual scope f cdv A outer s H E) body t ∧ t { nx := fun _ H' => Q .non H', rt := Q } (start N vs) H) :
    FnOk P w K mg base CX (k + 1) f (PySem.W.fnOf name qual params body scope dV kV doc pm an cdv ct) ps sp := by
  refine ⟨len, fun A outer s H args us vs Q E hr e0 hb r hsp => ?_⟩
  have hl := len _ _ _ _ hsp
  have KX : K.In s.heap := e0.mod.kin.keeps fun b o e => (e0.bs b o e).1
  have lim : s.heap.NoLimit := e0.mod.nolimit.keeps fun b o e => (e0.bs b o e).1
  have hkind : ∀ y ∈ ps.zip us, scope.names.lookup y.1 = some .local ∨ (scope.names.lookup y.1 = some .cell ∧ ((cellsFrom (s.heap.objs.size + 1) scope.names []).lookup y.1).isSome = true) := fun ⟨n, v⟩ hy => by
    rcases S.par n (List.of_mem_zip hy).1 with q | q
    · exact .inl q
    · exact .inr ⟨q, PySem.W.cellsFrom_some _ _ _ (.inl q)⟩
  refine codeAny_call_function hr.depth (KX _ _ lk) rfl S.co S.gen rfl (PySem.W.codeRec_of KX hcd) (hb _ _ _ _ ?_)
  refine wpAny_newFunctionEnv_cells S.kind hkind fun env he s1 x => ?_
  subst he
  refine ⟨lim.keeps x.toInCall.keep, codeAny_func ?_⟩
  obtain ⟨t, ht, hq⟩ := hbody A outer s H vs Q E (hr.deeper _) hsp
  have I : Inv (cxOf CX P w K mg base N qual scope f cdv A outer s H E) [] (start N vs) H s1 := inv_start S hr.hd e0 hl r x
  refine wpAny_mono (ht [] s1 (start N vs) H _ I hq) (fun fl s' hs => ?_) fun e s' hs => hs
  have fin : ∀ {σ' : St} {H' : Hp} {v : V} {u : Value}, Inv (cxOf CX P w K mg base N qual scope f cdv A outer s H E) [] σ' H' s' → RelV v u → Q v H' → CE outer P w H s Q u s' :=
    fun {σ' H' v u} J rv q => ⟨v, H', J.os, J.bare, J.base, J.hok, rv, q⟩
  cases fl with
  | ret u =>
    obtain ⟨v, σ', H', J, rv, q⟩ := hs
    exact fin J rv q
  | next =>
    obtain ⟨σ', H', J, q⟩ := hs
    exact fin (v := V.non) (u := Value.none) J rfl q
  | brk =>
    obtain ⟨_, _, _, q⟩ := hs
    exact False.elim q
  | cont =>
    obtain ⟨_, _, _, q⟩ := hs
    exact False.elim q
end L2

namespace L2
open PySem PySem.Spec PyProof.Rows
section
variable {X : Cx} {x : Str} {p pos : Pos} {e : Expr} {es : List Expr} {t : TA} {id T : String} {r : List V → Hp → VK → Prop}

def tCB (r : List V → Hp → VK → Prop) (t : TA) : TE := fun σ H Q => t σ H fun vs H1 => r vs H1 Q
/-- f(e, ..), f a built-in function -/
theorem pe_callB (hc : CallR X (.builtin id) r) (hg : Gl X x) (hm : X.mg x = none) (hv : bootBuiltins x = some (.builtin id)) (ha : PA X (e :: es) t) (hn : x ≠ "__name__" := by decide) (hdb : (x == ("__debug__" : Str)) = false := by decide)
    (he : starEach (e :: es) X.env = (false, eval e X.env) :: starEach es X.env := by rfl) (hpl : (backTo pos (starEach es X.env)).any (·.1) = false := by rfl) : PE X (.Call (.Name x p) (e :: es) [] pos) (tCB r t) := by
  intro pins s σ H Q I h
  refine wpAny_Call_Name_kw (ld_blt I hg hm hv ?_ hn hdb)
  exact PyProof.Rows.callWith_builtin1 (thn (ha pos pins s σ H _ I h) fun us s1 ⟨vs, H1, I1, r1, q1⟩ => hc pins s1 σ H1 vs us Q I1 r1 q1) he hpl
/-- T(e, ..), T a built-in type -/
theorem pe_callTy (hc : CallR X (.type T) r) (hg : Gl X x) (hm : X.mg x = none) (hv : bootBuiltins x = some (.type T)) (ha : PA X (e :: es) t) (hn : x ≠ "__name__" := by decide) (hdb : (x == ("__debug__" : Str)) = false := by decide)
    (he : starEach (e :: es) X.env = (false, eval e X.env) :: starEach es X.env := by rfl) (hpl : (backTo pos (starEach es X.env)).any (·.1) = false := by rfl) : PE X (.Call (.Name x p) (e :: es) [] pos) (tCB r t) := by
  intro pins s σ H Q I h
  refine wpAny_Call_Name_kw (ld_blt I hg hm hv ?_ hn hdb)
  exact PyProof.Rows.callWith_type1 (thn (ha pos pins s σ H _ I h) fun us s1 ⟨vs, H1, I1, r1, q1⟩ => hc pins s1 σ H1 vs us Q I1 r1 q1) he hpl
/-- T() -/
theorem pe_callTy0 (hc : CallR X (.type T) r) (hg : Gl X x) (hm : X.mg x = none) (hv : bootBuiltins x = some (.type T)) (hn : x ≠ "__name__" := by decide) (hdb : (x == ("__debug__" : Str)) = false := by decide) :
    PE X (.Call (.Name x p) [] [] pos) (tCB r tNil) := by
  intro pins s σ H Q I h
  refine wpAny_Call_Name_kw (ld_blt I hg hm hv ?_ hn hdb)
  exact PyProof.Rows.callWith_type0 (hc pins s σ H [] [] Q I .nil h)
end
end L2

namespace HT
open PySem PyProof.Rows

/-- t < u of tuples of ints -/
def lexLt : List Int → List Int → Bool
  | [], [] => false
  | [], _ :: _ => true
  | _ :: _, [] => false
  | x :: xs, y :: ys => if x = y then lexLt xs ys else decide (x < y)
theorem lexLt_cons (x y : Int) (xs ys : List Int) : lexLt (x :: xs) (y :: ys) = if x = y then lexLt xs ys else decide (x < y) := rfl
theorem lexLt_nil_nil : lexLt [] [] = false := rfl
theorem lexLt_nil_cons (y : Int) (ys : List Int) : lexLt [] (y :: ys) = true := rfl
theorem lexLt_cons_nil (x : Int) (xs : List Int) : lexLt (x :: xs) [] = false := rfl

theorem eqAt_int (A : Around) (s : Shared) (a : Int) (t : Tok) (c : Int) (u : Tok) : ∃ e, SeqAt.EqAt A s (.int a t) (.int c u) e ∧ (e = true ↔ a = c) :=
  ⟨(a == c), SeqAt.EqAt.int_int a t c u, by simp⟩
theorem rcLt_int (A : Around) (s : Shared) (a : Int) (t : Tok) (c : Int) (u : Tok) (prog : Program) (w : World) (E : Value → Shared → Prop) (Q : Value → Shared → Prop) (h : Q (.bool (decide (a < c))) s) :
    wpAny (model prog w) A (richCompare .Lt (.int a t) (.int c u)) Q E s :=
  (PyProof.Rows.lt_int h : wpAny (model prog w) A (compareOp .Lt (.int a t) (.int c u)) Q E s)

section
open PySem.SeqAt
open PySem.AutoSeq1 (wpAny_loadPart')
open PySem.MeetsSeq PySem.MeetsSeq2 PySem.MeetsSeq3

theorem tuple_lt_ints (l b : Addr) (items items2 : Array Value) (n n2 : Nat) (dd dd2 : Option Addr) (sl sl2 : Array (Option Value)) (ns ms : List Int) (hi : IntsAre items.toList ns) (hj : IntsAre items2.toList ms) :
    Meets (Builtin.«tuple.__lt__» ⟨[.ref l, .ref b], []⟩)
      (fun _ R s => s.heap.get? l = some { cls := .type "tuple", dict := dd, data := .seq items n, slots := sl } ∧ s.heap.get? b = some { cls := .type "tuple", dict := dd2, data := .seq items2 n2, slots := sl2 } ∧
        R (.ok (.ret (.bool (lexLt ns ms)))) s) :=
  .of_wp fun prog w A R s h => by
    obtain ⟨hp, g, d, tk, os⟩ := s; obtain ⟨hl, hb, h⟩ := h
    have f2 := AutoSeq1.sub_tuple_tuple
    have z1 : items.size = ns.length := by rw [← hi.length]; simp
    have z2 : items2.size = ms.length := by rw [← hj.length]; simp
    wp_walk using wpAny_loadPart' hl, wpAny_loadPart' hb, wpAny_forIn_list _ (fun rest b s' => b.1 = none ∧ s' = ⟨hp, g, d, tk, os⟩ ∧ ∃ (vs ws : List Value) (ns' ms' : List Int), rest = vs.zip ws ∧
      IntsAre vs ns' ∧ IntsAre ws ms' ∧ ns'.length + items2.size = ms'.length + items.size ∧ R (.ok (.ret (.bool (lexLt ns' ms')))) ⟨hp, g, d, tk, os⟩) _
    case turn =>
      rintro ⟨y, x⟩ rest b s' ⟨hb', rfl, vs, ws, ns', ms', hz, hvi, hwi, hlen, hR⟩
      cases hvi with
      | nil => rw [List.zip_nil_left] at hz; cases hz
      | cons a t hvi' =>
        cases hwi with
        | nil => rw [List.zip_nil_right] at hz; cases hz
        | cons c u hwi' =>
          rw [List.zip_cons_cons] at hz
          injection hz with hyx hrest
          injection hyx with hy hx
          subst hy hx
          rw [lexLt_cons] at hR
          simp only [List.length_cons] at hlen
          obtain ⟨e, he, hiff⟩ := eqAt_int A.in1 ⟨hp, g, d, tk, os⟩ a t c u
          refine wpAny_bind (he prog w _ _ ?_)
          cases e with
          | true =>
            rw [if_pos (hiff.mp rfl)] at hR
            wp_walk
            exact ⟨rfl, rfl, _, _, _, _, hrest, hvi', hwi', by omega, hR⟩
          | false =>
            rw [if_neg (fun q => absurd (hiff.mpr q) Bool.false_ne_true)] at hR
            have hri := rcLt_int A.in1 ⟨hp, g, d, tk, os⟩ a t c u prog w
            wp_walk using hri
            exact ⟨_, rfl, by simpa using hR⟩
    case fin =>
      rintro ⟨b1, b2⟩ s' ⟨hb', rfl, vs, ws, ns', ms', hz, hvi, hwi, hlen, hR⟩
      simp only at hb'
      subst hb'
      have hv : lexLt ns' ms' = decide (items.size < items2.size) := by
        cases hvi with
        | nil =>
          cases hwi with
          | nil =>
            simp only [List.length_nil] at hlen
            rw [lexLt_nil_nil]
            exact (decide_eq_false (by omega)).symm
          | cons c u hw =>
            simp only [List.length_nil, List.length_cons] at hlen
            rw [lexLt_nil_cons]
            exact (decide_eq_true (by omega)).symm
        | cons a t hv =>
          cases hwi with
          | nil =>
            simp only [List.length_nil, List.length_cons] at hlen
            rw [lexLt_cons_nil]
            exact (decide_eq_false (by omega)).symm
          | cons c u hw =>
            rw [List.zip_cons_cons] at hz
            cases hz
      rw [hv] at hR
      wp_walk
      exact ⟨_, rfl, by simpa [Builtin.Tuple.tupleCompareSizes] using hR⟩
    case h =>
      exact ⟨rfl, rfl, items.toList, items2.toList, ns, ms, rfl, hi, hj, by omega, h⟩
end

section
variable {prog : Program} {w : World} {A : Around} {E : Value → Shared → Prop} {s : Shared}

theorem lt_tupInts {l b : Addr} {items items2 : Array Value} {ns ms : List Int} {Q : Value → Shared → Prop} (hl : IsTup s.heap l items) (hb : IsTup s.heap b items2) (hi : IntsAre items.toList ns) (hj : IntsAre items2.toList ms)
    (hu : A.units < cLine) (h : Q (.bool (lexLt ns ms)) s) : wpAny (model prog w) A (compareOp .Lt (.ref l) (.ref b)) Q E s := by
  obtain ⟨⟨cls, dd, data, sl⟩, ho, hc, n, hd⟩ := id hl
  obtain ⟨⟨cls2, dd2, data2, sl2⟩, ho2, hc2, n2, hd2⟩ := id hb
  simp only at hc hd hc2 hd2
  subst hc hd hc2 hd2
  exact richCompare_meets_room (op := .Lt) ⟨_, ho, rfl⟩ ⟨_, ho2, rfl⟩ PySem.F.slot_tuple_lt PySem.F.entry_tuple_lt (PySem.F.args_tuple_lt_2 _ _) (tuple_lt_ints l b items items2 n n2 dd dd2 sl sl2 ns ms hi hj)
    ⟨ho, ho2, show Value.bool (lexLt ns ms) ≠ Value.notImplemented ∧ Q (.bool (lexLt ns ms)) s from ⟨(fun x => nomatch x), h⟩⟩ hu

/-- t + u, t not empty -/
theorem cat_tup {t b : Addr} {vs ws : List Value} {Q : Value → Shared → Prop} (ht : IsTup s.heap t vs.toArray) (hb : IsTup s.heap b ws.toArray) (hv : vs ≠ [])
    (h1 : ws = [] → Q (.ref t) s) (h2 : ws ≠ [] → Q (.ref s.heap.objs.size) { s with heap := s.heap.push { cls := .type "tuple", data := .seq (vs ++ ws).toArray } })
    (hsz : vs.length + ws.length ≤ sizeLine) : wpAny (model prog w) A (binaryOp .Add (.ref t) (.ref b)) Q E s := by
  obtain ⟨⟨cls, dd, data, sl⟩, ho, hc, n, hd⟩ := id ht
  obtain ⟨⟨cls2, dd2, data2, sl2⟩, ho2, hc2, n2, hd2⟩ := id hb
  simp only at hc hd hc2 hd2
  subst hc hd hc2 hd2
  have e : vs.toArray ++ ws.toArray = (vs ++ ws).toArray := by simp
  by_cases hw : ws = []
  · exact concat_meets ⟨_, ho, rfl⟩ ⟨_, ho2, rfl⟩ noFill_tuple_add seq_tuple_add PySem.F.slot_tuple_add PySem.F.entry_tuple_add (PySem.F.args_tuple_add_2 _ _)
      (tuple_addW1 t b vs.toArray ws.toArray n n2 dd dd2 sl sl2 (by simpa using hv) (by simp [hw])) ⟨ho, ho2, h1 hw⟩
  · refine concat_meets ⟨_, ho, rfl⟩ ⟨_, ho2, rfl⟩ noFill_tuple_add seq_tuple_add PySem.F.slot_tuple_add PySem.F.entry_tuple_add (PySem.F.args_tuple_add_2 _ _)
      (tuple_addW2 t b vs.toArray ws.toArray n n2 dd dd2 sl sl2 (by simpa using hv) (by simpa using hw) (by rw [List.size_toArray, List.size_toArray]; exact hsz)) ⟨ho, ho2, ?_⟩
    rw [e]
    exact h2 hw

/-! ### t[a:b], not the whole -/
/-- a slice's bound as a place among n (d where it is left out) -/
def sIx (n d : Nat) : Option Int → Nat
  | none => d
  | some v => if v < 0 then (v + (n : Int)).toNat else min v.toNat n
theorem sIx_none (n d : Nat) : sIx n d none = d := rfl
theorem sIx_nat (n d k : Nat) : sIx n d (some (k : Int)) = min k n := by
  show (if (k : Int) < 0 then ((k : Int) + (n : Int)).toNat else min (k : Int).toNat n) = min k n
  rw [if_neg (by omega), Int.toNat_natCast]
theorem sIx_le (n d : Nat) (hd : d ≤ n) (o : Option Int) : sIx n d o ≤ n := by
  cases o with
  | none => exact hd
  | some v =>
    show (if v < 0 then (v + (n : Int)).toNat else min v.toNat n) ≤ n
    by_cases hv : v < 0
    · rw [if_pos hv]; omega
    · rw [if_neg hv]; exact Nat.min_le_right _ _
theorem clip_eq (v : Int) (n d : Nat) : (if v < 0 then max (v + (n : Int)) 0 else min v (n : Int)) = ((sIx n d (some v) : Nat) : Int) := by
  show (if v < 0 then max (v + (n : Int)) 0 else min v (n : Int)) = (((if v < 0 then (v + (n : Int)).toNat else min v.toNat n) : Nat) : Int)
  by_cases hv : v < 0
  · simp only [if_pos hv]; omega
  · simp only [if_neg hv]; omega
theorem adjust_gen (lo hi : Option Int) (n : Nat) : Builtin.Slice.sliceAdjust lo hi 1 (n : Int) = (((sIx n 0 lo : Nat) : Int), ((sIx n n hi : Nat) : Int)) := by
  have h1 : ¬ ((1 : Int) < 0) := by omega
  unfold Builtin.Slice.sliceAdjust
  simp only [h1, if_false]
  refine Prod.ext ?_ ?_
  · cases lo with
    | none => rfl
    | some v => exact clip_eq v n 0
  · cases hi with
    | none => rfl
    | some v => exact clip_eq v n n
theorem places_gen (i j : Nat) : Builtin.Slice.slicePlaces (i : Int) (j : Int) 1 = j - i := by
  unfold Builtin.Slice.slicePlaces
  have h1 : (1 : Int) > 0 := by omega
  simp only [h1, if_true, Int.ediv_one]
  split <;> omega
theorem slicePart_ {v : Value} {o : Option Int} {Q : Option Int → Shared → Prop} (p : IsPart v o) (h : Q o s) : wpAny (model prog w) A (Builtin.Slice.slicePartIndex v) Q E s := by
  cases p with
  | none => exact slicePart_none h
  | int i t => exact slicePart_int h
theorem sliceApplied_gen {sl : Addr} {vl vu : Value} {lo hi : Option Int} {n : Nat} {Q : Int × Int × Nat → Shared → Prop} (hs : s.heap.IsSliceOf sl vl vu .none) (pl : IsPart vl lo) (pu : IsPart vu hi)
    (h : Q (((sIx n 0 lo : Nat) : Int), 1, sIx n n hi - sIx n 0 lo) s) : wpAny (model prog w) A (Builtin.Slice.sliceApplied (.ref sl) (pure (n : Int))) Q E s := by
  obtain ⟨os, hos, hcs, hds⟩ := id hs
  unfold Builtin.Slice.sliceApplied Builtin.Slice.sliceFields
  refine wpAny_bind (wpAny_bind (wpAny_field hos hds (x := vl) rfl (wpAny_bind (wpAny_field hos hds (x := vu) rfl (wpAny_bind (wpAny_field hos hds (x := .none) rfl (wpAny_pure ?_)))))))
  refine wpAny_bind (slicePart_none ?_)
  show wpAny _ _ (if ((1 : Int) == 0) = true then _ else _) _ _ s
  rw [if_neg (by decide)]
  refine wpAny_bind (slicePart_ pl (wpAny_bind (slicePart_ pu (wpAny_bind (wpAny_pure ?_)))))
  show wpAny _ _ (match Builtin.Slice.sliceAdjust lo hi 1 (n : Int) with | (lo, hi) => pure (lo, (1 : Int), Builtin.Slice.slicePlaces lo hi 1)) _ _ s
  rw [adjust_gen lo hi n]
  show wpAny _ _ (pure (((sIx n 0 lo : Nat) : Int), (1 : Int), Builtin.Slice.slicePlaces ((sIx n 0 lo : Nat) : Int) ((sIx n n hi : Nat) : Int) 1)) _ _ s
  rw [places_gen]
  exact wpAny_pure h
theorem pick_gen (xs : Array Value) (i k : Nat) : ((List.range k).filterMap fun (m : Nat) => xs[((i : Int) + (m : Int) * 1).toNat]?).toArray = ((xs.toList.drop i).take k).toArray := by
  have e : (fun (m : Nat) => xs[((i : Int) + (m : Int) * 1).toNat]?) = fun m => xs[i + m]? := by
    funext m
    have : ((i : Int) + (m : Int) * 1).toNat = i + m := by omega
    rw [this]
  rw [e]
  have := pick_run xs i k
  rw [List.filterMap_map] at this
  have e2 : ((fun x => xs[x]?) ∘ fun x => i + x) = fun m => xs[i + m]? := rfl
  rw [e2] at this
  rw [this]

theorem getItem_tuple_cut {t sl : Addr} {items : Array Value} {vl vu : Value} {lo hi : Option Int} {Q : Value → Shared → Prop} (ht : IsTup s.heap t items) (hs : s.heap.IsSliceOf sl vl vu .none) (pl : IsPart vl lo) (pu : IsPart vu hi)
    (hw : ¬ (sIx items.size 0 lo = 0 ∧ sIx items.size items.size hi = items.size))
    (h : Q (.ref s.heap.objs.size) { s with heap := s.heap.push { cls := .type "tuple", data := .seq ((items.toList.drop (sIx items.size 0 lo)).take (sIx items.size items.size hi - sIx items.size 0 lo)).toArray } })
    (hsz : items.size ≤ sizeLine) : wpAny (model prog w) A (getItem (.ref t) (.ref sl)) Q E s := by
  have htake : sizeOk (.seq ((items.toList.drop (sIx items.size 0 lo)).take (sIx items.size items.size hi - sIx items.size 0 lo)).toArray) := by
    show ((items.toList.drop (sIx items.size 0 lo)).take (sIx items.size items.size hi - sIx items.size 0 lo)).toArray.size ≤ sizeLine
    rw [List.size_toArray, List.length_take, List.length_drop, Array.length_toList]
    omega
  have hj : sIx items.size items.size hi ≤ items.size := sIx_le _ _ (Nat.le_refl _) hi
  obtain ⟨os, hos, hcs, hds⟩ := id hs
  have hTs : s.TypeIs (.ref sl) "slice" := ⟨os, hos, hcs⟩
  unfold getItem
  try with_reducible refine wpAny_holding ?_
  first | refine wpAny_bind (wpAny_pure ?_) | skip
  refine wpAny_bind (wpAny_sequenceKey ht.typeIs (by decide) ?_)
  refine wpAny_bind (wpAny_callSpecial?_slot (name := Str.ofString "__getitem__") ht.typeIs PyProof.Rows.slot_tuple_getitem
    (wpAny_call_entry PyProof.Rows.slot_tuple_getitem ht.typeIs entry_tuple_getitem ?_ (args_tuple_getitem _ _)))
  show wpAny _ _ (Builtin.Tuple.tupleItemsOf (.ref t) >>= _) _ _ s
  refine wpAny_bind (tupleItemsOf_ ht ?_)
  refine wpAny_bind (wpAny_typeOf hTs ?_)
  rw [if_pos (by decide)]
  refine wpAny_bind (sliceApplied_gen hs pl pu ?_)
  have hno : ¬ ((((sIx items.size 0 lo : Nat) : Int) == 0 && (1 : Int) == 1 && (sIx items.size items.size hi - sIx items.size 0 lo) == items.size) = true) := by
    intro q
    rw [Bool.and_eq_true, Bool.and_eq_true] at q
    have q1 : ((sIx items.size 0 lo : Nat) : Int) = 0 := eq_of_beq q.1.1
    have q2 : sIx items.size items.size hi - sIx items.size 0 lo = items.size := eq_of_beq q.2
    exact hw ⟨by omega, by omega⟩
  show wpAny _ _ (if (((sIx items.size 0 lo : Nat) : Int) == 0 && (1 : Int) == 1 && (sIx items.size items.size hi - sIx items.size 0 lo) == items.size) = true then _ else _) _ _ s
  rw [if_neg hno, pick_gen]
  first
    | exact wpAny_bind (m := Builtin.Tuple.tupleExact _) (wpAny_newObj_type (wpAny_pure ⟨_, rfl, wpAny_pure h⟩) htake)
    | exact wpAny_bind (m := Builtin.Tuple.tupleExact _) (wpAny_newObj_type (wpAny_bind (wpAny_pure (wpAny_pure ⟨_, rfl, wpAny_pure h⟩))) htake)
    | exact wpAny_bind (wpAny_bind (m := Builtin.Tuple.tupleExact _) (wpAny_newObj_type (wpAny_pure (wpAny_pure ⟨_, rfl, wpAny_pure h⟩)) htake))
    | exact wpAny_bind (wpAny_bind (m := Builtin.Tuple.tupleExact _) (wpAny_newObj_type (wpAny_pure ⟨_, rfl, wpAny_pure h⟩) htake))
end
end HT

namespace L2
open PySem PySem.Spec PyProof.Rows

/-! ### the parts of a slice -/
abbrev TO := St → Hp → (Option Int → Hp → Prop) → Prop
/-- a slice's part (left out, or an int) -/
def PO (X : Cx) (e : Option Expr) (t : TO) : Prop :=
  ∀ (pins : List (Addr × Obj)) (s : Shared) (σ : St) (H : Hp) (Q : Option Int → Hp → Prop), Inv X pins σ H s → t σ H Q →
    wpAny (model X.prog X.w) X.A (evalPart e X.env) (fun u s' => ∃ o H', Inv X pins σ H' s' ∧ IsPart u o ∧ Q o H') X.xe s
def tNoPart : TO := fun _ H Q => Q none H
def tPart (t : TE) : TO := fun σ H Q => t σ H fun x H1 => ∃ i, x = .int i ∧ Q (some i) H1

theorem intsAre_of {ns : List Int} : ∀ {us : List Value}, Vals (ns.map V.int) us → IntsAre us ns := by
  induction ns with
  | nil => intro us r; rw [List.map_nil] at r; cases r; exact .nil
  | cons n ns ih =>
    intro us r
    rw [List.map_cons] at r
    cases r with
    | cons r1 r2 =>
      obtain ⟨t, e⟩ := r1
      subst e
      exact .cons n t (ih r2)

section
variable {X : Cx} {e : Expr} {te : TE} {lo hi : Option Expr} {tl th : TO} {pos p2 : Pos}

theorem po_none : PO X none tNoPart := by
  intro pins s σ H Q I h
  rw [evalPart_none]
  exact wpAny_pure ⟨none, H, I, .none, h⟩
theorem po_some (h : PE X e te) : PO X (some e) (tPart te) := by
  intro pins s σ H Q I hw
  rw [evalPart_some]
  refine thn (h pins s σ H _ I hw) fun u s1 ⟨x, H1, I1, r1, q1⟩ => ?_
  obtain ⟨i, rfl, q⟩ := q1
  obtain ⟨t, rfl⟩ := r1
  exact ⟨some i, H1, I1, .int i t, q⟩

/-- what a slice of a value is, by values: the slice object stands at sl -/
def SlR (X : Cx) (r : V → Option Int → Option Int → Hp → VK → Prop) : Prop :=
  ∀ (pins : List (Addr × Obj)) (s : Shared) (σ : St) (H : Hp) (x : V) (v vl vu : Value) (lo hi : Option Int) (sl : Addr) (Q : VK), Inv X pins σ H s → RelV x v → s.heap.IsSliceOf sl vl vu .none → IsPart vl lo → IsPart vu hi → r x lo hi H Q →
    ∃ T id, typeLookup (.type T) "__getitem__" = pure (some (.builtin id)) ∧ s.TypeIs v T ∧ wpAny (model X.prog X.w) X.A (getItem v (.ref sl)) (EP X pins σ Q) X.xe s
theorem SlR.or {r r' : V → Option Int → Option Int → Hp → VK → Prop} (h : SlR X r) (h' : SlR X r') : SlR X (fun x lo hi H Q => r x lo hi H Q ∨ r' x lo hi H Q) := by
  intro pins s σ H x v vl vu lo hi sl Q I rx hs pl pu q
  rcases q with q | q
  · exact h pins s σ H x v vl vu lo hi sl Q I rx hs pl pu q
  · exact h' pins s σ H x v vl vu lo hi sl Q I rx hs pl pu q
def tSl (r : V → Option Int → Option Int → Hp → VK → Prop) (te : TE) (tl th : TO) : TE := fun σ H Q => te σ H fun x H1 => tl σ H1 fun l H2 => th σ H2 fun u H3 => r x l u H3 Q
/-- a[lo:hi], any a -/
theorem pe_slice {r : V → Option Int → Option Int → Hp → VK → Prop} (hr : SlR X r) (he : PE X e te) (hl : PO X lo tl) (hu : PO X hi th) : PE X (.Subscript e (.Slice lo hi none p2) pos) (tSl r te tl th) := by
  intro pins s σ H Q I h
  refine Subscript_ (thn (he pins s σ H _ I h) fun v s1 ⟨x, H1, I1, r1, q1⟩ => ?_)
  refine wpAny_Slice (thn (hl pins s1 σ H1 _ I1 q1) fun vl s2 ⟨l, H2, I2, pl, q2⟩ => thn (hu pins s2 σ H2 _ I2 q2) fun vu s3 ⟨u, H3, I3, pu, q3⟩ => ?_)
  rw [evalPart_none]
  refine wpAny_pure ?_
  have I4 : Inv X pins σ H3 { s3 with heap := s3.heap.push { cls := .type "slice", data := .fields #[vl, vu, .none] } } := I3.kept (t' := s3.toks) fun b ob q => Heap.get?_push_of_some _ q
  obtain ⟨T, id, hT, ht, hg⟩ := hr pins { s3 with heap := s3.heap.push { cls := .type "slice", data := .fields #[vl, vu, .none] } } σ H3 x v vl vu l u s3.heap.objs.size Q I4 r1 (Heap.IsSliceOf.new ..) pl pu q3
  show wpAny (model X.prog X.w) X.A (subscriptTail e (.Slice lo hi none p2) v (.ref s3.heap.objs.size)) (EP X pins σ Q) X.xe { s3 with heap := s3.heap.push { cls := .type "slice", data := .fields #[vl, vu, .none] } }
  exact tail_any (ops := [.ref s3.heap.objs.size, v]) ht hT hg (by with_unfolding_all rfl)

/-- the items of xs[lo:hi] -/
def cutV (xs : List V) (lo hi : Option Int) : List V := (xs.drop (HT.sIx xs.length 0 lo)).take (HT.sIx xs.length xs.length hi - HT.sIx xs.length 0 lo)
theorem cutV_length (xs : List V) (lo hi : Option Int) : (cutV xs lo hi).length ≤ xs.length := by
  unfold cutV
  rw [List.length_take, List.length_drop]
  omega
/-- t[lo:hi], not the whole of it (the whole would be t itself) -/
def rSlT (K : PySem.W.Frag) : V → Option Int → Option Int → Hp → VK → Prop := fun x lo hi H Q => ∃ a xs, x = .ref a ∧ SqT K H a xs ∧
  ¬ (HT.sIx xs.length 0 lo = 0 ∧ HT.sIx xs.length xs.length hi = xs.length) ∧ ∀ p, H p = none → Q (.ref p) (upd H p (.tup (cutV xs lo hi)))
theorem sl_tup : SlR X (rSlT X.K) := by
  intro pins s σ H x v vl vu lo hi sl Q I rx hs pl pu h
  obtain ⟨a, xs, rfl, hx, hw, q⟩ := h
  cases rx
  obtain ⟨its, r, ht, hz⟩ := I.tuple hx
  have hlen : its.toArray.size = xs.length := by rw [List.size_toArray]; exact r.length.symm
  refine ⟨"tuple", _, PyProof.Rows.slot_tuple_getitem.lookup, ht.typeIs, ?_⟩
  refine HT.getItem_tuple_cut ht hs pl pu (by rw [hlen]; exact hw) ?_ (by rw [hlen]; exact hz)
  rw [hlen]
  refine ⟨.ref s.heap.objs.size, _, I.laid (t' := s.toks) (o := .tup (cutV xs lo hi)) (fun b ob q => Heap.get?_push_of_some _ q) (Nat.le_refl _) ?_, rfl, q _ (I.hok.fresh (Nat.le_refl _))⟩
  exact ⟨Nat.le_trans (cutV_length xs lo hi) hz, _, (r.drop (HT.sIx xs.length 0 lo)).take (HT.sIx xs.length xs.length hi - HT.sIx xs.length 0 lo), IsTup.new _ _⟩

/-! ### t < u, t + u -/
def rLtT (K : PySem.W.Frag) : R2 := fun x y H Q => ∃ a b ns ms, x = .ref a ∧ y = .ref b ∧ SqT K H a (ns.map V.int) ∧ SqT K H b (ms.map V.int) ∧ Q (.bl (HT.lexLt ns ms)) H
theorem op_ltT (hu : X.A.units < cLine) : OpR X (compareOp .Lt) (rLtT X.K) := by
  intro pins s σ H x y v u Q I rx ry h
  obtain ⟨a, b, ns, ms, rfl, rfl, ha, hb, q⟩ := h
  cases rx
  cases ry
  obtain ⟨its, r1, p1, _⟩ := I.tuple ha
  obtain ⟨its2, r2, p2, _⟩ := I.tuple hb
  have i1 : IntsAre its.toArray.toList ns := intsAre_of r1
  have i2 : IntsAre its2.toArray.toList ms := intsAre_of r2
  exact HT.lt_tupInts p1 p2 i1 i2 hu ⟨.bl (HT.lexLt ns ms), H, I, rfl, q⟩
/-- t + u, t not empty: u empty gives t itself -/
def rCatT (K : PySem.W.Frag) : R2 := fun x y H Q => ∃ a b xs ys, x = .ref a ∧ y = .ref b ∧ SqT K H a xs ∧ SqT K H b ys ∧ xs ≠ [] ∧ xs.length + ys.length ≤ sizeLine ∧
  (ys = [] → Q (.ref a) H) ∧ (ys ≠ [] → ∀ p, H p = none → Q (.ref p) (upd H p (.tup (xs ++ ys))))
theorem Vals.nil_iff {xs : List V} {us : List Value} (r : Vals xs us) : us = [] ↔ xs = [] := by
  cases r with
  | nil => simp
  | cons _ _ => simp
theorem op_catT : OpR X (binaryOp .Add) (rCatT X.K) := by
  intro pins s σ H x y v u Q I rx ry h
  obtain ⟨a, b, xs, ys, rfl, rfl, ha, hb, hx, hz, q1, q2⟩ := h
  cases rx
  cases ry
  obtain ⟨its, r1, p1, _⟩ := I.tuple ha
  obtain ⟨its2, r2, p2, _⟩ := I.tuple hb
  refine HT.cat_tup p1 p2 (fun z => hx (r1.nil_iff.mp z)) (fun z => ⟨.ref a, H, I, rfl, q1 (r2.nil_iff.mp z)⟩) (fun z => ?_) (by rw [← r1.length, ← r2.length]; exact hz)
  refine ⟨.ref s.heap.objs.size, _, I.laid (t' := s.toks) (o := .tup (xs ++ ys)) (fun b ob q => Heap.get?_push_of_some _ q) (Nat.le_refl _) ?_, rfl, q2 (fun w => z (r2.nil_iff.mpr w)) _ (I.hok.fresh (Nat.le_refl _))⟩
  exact ⟨by rw [List.length_append]; exact hz, _, r1.append r2, IsTup.new _ _⟩
/-- tuple(t) -/
theorem call_tupleT : CallR X (.type "tuple") (fun xs H Q => ∃ a ys, xs = [.ref a] ∧ SqT X.K H a ys ∧ Q (.ref a) H) := by
  intro pins s σ H xs us Q I r h
  obtain ⟨a, ys, rfl, ha, q⟩ := h
  obtain ⟨u, rfl, ru⟩ := vals1 r
  cases ru
  obtain ⟨its, _, p1, _⟩ := I.tuple ha
  exact call_tuple_same (items := its.toArray) p1 ⟨.ref a, H, I, rfl, q⟩
end
end L2

namespace L2
open PySem PySem.Spec PyProof.Rows

/-! ### places -/
/-- the place that an index of any sign means -/
def ixN (n : Nat) (i : Int) : Option Nat := if 0 ≤ i then (if i < n then some i.toNat else none) else if -(n : Int) ≤ i then some (i + n).toNat else none
def atI {α : Type} (xs : List α) (i : Int) : Option α := (ixN xs.length i).bind fun j => xs[j]?
theorem ixN_seq {n : Nat} {i : Int} {j : Nat} (h : ixN n i = some j) : seqIndex? i n = some j ∧ j < n ∧ -(n : Int) ≤ i ∧ i < n := by
  unfold ixN at h
  by_cases h0 : 0 ≤ i
  · rw [if_pos h0] at h
    by_cases h1 : i < n
    · rw [if_pos h1] at h
      have e : i.toNat = j := Option.some.inj h
      exact ⟨by rw [seqIndex_of h0 h1, e], by omega, by omega, h1⟩
    · rw [if_neg h1] at h; cases h
  · rw [if_neg h0] at h
    by_cases h1 : -(n : Int) ≤ i
    · rw [if_pos h1] at h
      have e : (i + n).toNat = j := Option.some.inj h
      exact ⟨by rw [seqIndex_neg (by omega) h1, e], by omega, h1, by omega⟩
    · rw [if_neg h1] at h; cases h
theorem atI_get {α : Type} {xs : List α} {i : Int} {v : α} (h : atI xs i = some v) : ∃ j, seqIndex? i xs.length = some j ∧ xs[j]? = some v ∧ j < xs.length ∧ -(xs.length : Int) ≤ i ∧ i < xs.length := by
  unfold atI at h
  cases e : ixN xs.length i with
  | none => rw [e] at h; cases h
  | some j =>
    rw [e] at h
    obtain ⟨h1, h2, h3, h4⟩ := ixN_seq e
    exact ⟨j, h1, h, h2, h3, h4⟩
theorem atI_nat {α : Type} {xs : List α} {j : Nat} {v : α} (h : xs[j]? = some v) : atI xs (j : Int) = some v := by
  have hj : j < xs.length := (List.getElem?_eq_some_iff.mp h).1
  have e : ixN xs.length (j : Int) = some j := by
    unfold ixN
    rw [if_pos (by omega), if_pos (by omega)]; simp
  unfold atI; rw [e]; exact h
theorem atI_last {α : Type} (xs : List α) (v : α) : atI (xs ++ [v]) (-1) = some v := by
  have hl : (xs ++ [v]).length = xs.length + 1 := by simp
  have e : ixN (xs ++ [v]).length (-1) = some xs.length := by
    unfold ixN
    rw [hl, if_neg (by decide), if_pos (by omega)]
    congr 1
    omega
  unfold atI
  rw [e]
  show (xs ++ [v])[xs.length]? = some v
  simp

/-! ### what may be subscripted -/
/-- what stands as an index of a plain subscript -/
def PlainIx (b : Expr) : Prop := ∀ o i, subscripted b false o i = operate [o, i] (getItem o i)
/-- a subscript by values -/
def IxR (X : Cx) (r : R2) : Prop :=
  ∀ (value slice : Expr) (pins : List (Addr × Obj)) (s : Shared) (σ : St) (H : Hp) (x y : V) (v u : Value) (Q : VK), Inv X pins σ H s → RelV x v → RelV y u → r x y H Q →
    subscripted slice false v u = operate [v, u] (getItem v u) → wpAny (model X.prog X.w) X.A (subscriptTail value slice v u) (EP X pins σ Q) X.xe s
/-- a call of a builtin's method by values: the receiver, the arguments -/
def MtR (X : Cx) (id : String) (r : V → List V → Hp → VK → Prop) : Prop :=
  ∀ (pins : List (Addr × Obj)) (s : Shared) (σ : St) (H : Hp) (x : V) (xs : List V) (v : Value) (us : List Value) (Q : VK), Inv X pins σ H s → RelV x v → Vals xs us → r x xs H Q →
    wpAny (model X.prog X.w) X.A (call (.builtin id) (v :: us)) (EP X pins σ Q) X.xe s
section
variable {X : Cx} {a b : Expr} {ta tb : TE} {pos : Pos}
theorem IxR.or {r r' : R2} (h : IxR X r) (h' : IxR X r') : IxR X (fun x y H Q => r x y H Q ∨ r' x y H Q) := by
  intro value slice pins s σ H x y v u Q I rx ry q hs
  rcases q with q | q
  · exact h value slice pins s σ H x y v u Q I rx ry q hs
  · exact h' value slice pins s σ H x y v u Q I rx ry q hs
theorem MtR.or {id : String} {r r' : V → List V → Hp → VK → Prop} (h : MtR X id r) (h' : MtR X id r') : MtR X id (fun x xs H Q => r x xs H Q ∨ r' x xs H Q) := by
  intro pins s σ H x xs v us Q I rx rs q
  rcases q with q | q
  · exact h pins s σ H x xs v us Q I rx rs q
  · exact h' pins s σ H x xs v us Q I rx rs q
/-- a[b] -/
theorem pe_ix {r : R2} (hr : IxR X r) (ha : PE X a ta) (hb : PE X b tb) (hs : PlainIx b) : PE X (.Subscript a b pos) (tOp r ta tb) := by
  intro pins s σ H Q I h
  exact Subscript_ (binT ha hb I h fun v u s2 x y H2 I2 rx ry q => hr a b pins s2 σ H2 x y v u Q I2 rx ry q (hs _ _))

def rIxL (K : PySem.W.Frag) : R2 := fun x y H Q => ∃ p xs i v, x = .ref p ∧ y = .int i ∧ SqL K H p xs ∧ atI xs i = some v ∧ Q v H
def rIxT (K : PySem.W.Frag) : R2 := fun x y H Q => ∃ p xs i v, x = .ref p ∧ y = .int i ∧ SqT K H p xs ∧ atI xs i = some v ∧ Q v H
def rIxS : R2 := fun x y H Q => ∃ z i c, x = .str z ∧ y = .int i ∧ z.length ≤ sizeLine ∧ atI z.cps.toList i = some c ∧ Q (.str ⟨#[c]⟩) H
theorem ix_list : IxR X (rIxL X.K) := by
  intro value slice pins s σ H x y v u Q I rx ry h hs
  obtain ⟨p, xs, i, z, rfl, rfl, hq, he, q⟩ := h
  cases rx
  obtain ⟨t, rfl⟩ := ry
  obtain ⟨its, r, pl, hz⟩ := I.list hq
  obtain ⟨j, h1, h2, h3, h4, h5⟩ := atI_get he
  obtain ⟨w, ew, rw'⟩ := r.get h2
  have hl := r.length
  have hn := line63
  have fin : EP X pins σ Q w s := ⟨z, H, I, rw', q⟩
  by_cases h0 : 0 ≤ i
  · have hj : i.toNat = j := by
      rw [seqIndex_of h0 h5] at h1
      exact Option.some.inj h1
    exact item_listR pl.isList h0 (by omega) (by rw [hj]; simpa using ew) fin hs
  · have hj : (i + (its.toArray.size : Int)).toNat = j := by
      rw [seqIndex_neg (by omega) h4] at h1
      rw [List.size_toArray, ← hl]
      exact Option.some.inj h1
    exact subscriptTail_builtinR (x := w) pl.isList.typeIs slot_list_getitem.lookup
      (wpAny_getItem_list_neg (Q := fun r s' => r = w ∧ EP X pins σ Q r s') pl.isList (by omega) (by rw [List.size_toArray] <;> omega) (by omega) (by rw [hj]; simpa using ew) ⟨rfl, fin⟩) hs
theorem ix_tup : IxR X (rIxT X.K) := by
  intro value slice pins s σ H x y v u Q I rx ry h hs
  obtain ⟨p, xs, i, z, rfl, rfl, hq, he, q⟩ := h
  cases rx
  obtain ⟨t, rfl⟩ := ry
  obtain ⟨its, r, pl, hz⟩ := I.tuple hq
  obtain ⟨j, h1, h2, h3, h4, h5⟩ := atI_get he
  obtain ⟨w, ew, rw'⟩ := r.get h2
  have hl := r.length
  have hn := line63
  have fin : EP X pins σ Q w s := ⟨z, H, I, rw', q⟩
  exact subscriptTail_builtinR (x := w) pl.typeIs slot_tuple_getitem.lookup
    (getItem_tuple (j := j) (Q := fun r s' => r = w ∧ EP X pins σ Q r s') pl (by omega) (by omega) (by rw [List.size_toArray, ← hl]; exact h1) (by simpa using ew) ⟨rfl, fin⟩) hs
theorem ix_str : IxR X rIxS := by
  intro value slice pins s σ H x y v u Q I rx ry h hs
  obtain ⟨z, i, c, rfl, rfl, hz, he, q⟩ := h
  obtain ⟨t, rfl⟩ := rx
  obtain ⟨t', rfl⟩ := ry
  obtain ⟨j, h1, h2, h3, h4, h5⟩ := atI_get he
  have hl : z.cps.toList.length = z.length := by simp [Str.length]
  rw [hl] at h1 h4 h5
  have hn := line63
  exact tail_any (typeIs_str s z t) slot_str_getitem.lookup (getItem_str (c := c) (by
    have e1 : decide (i < -(2 ^ 63 : Int)) = false := decide_eq_false (by omega)
    have e2 : decide (i ≥ 2 ^ 63) = false := decide_eq_false (by omega)
    rw [e1, e2, Bool.or_false]) (by rw [h1]; simpa using h2) ⟨.str ⟨#[c]⟩, H, I.tok _, ⟨_, rfl⟩, q⟩) hs
/-- list, tuple or str -/
def rIx (K : PySem.W.Frag) : R2 := fun x y H Q => rIxL K x y H Q ∨ rIxT K x y H Q ∨ rIxS x y H Q
theorem ix_seq : IxR X (rIx X.K) := ix_list.or (ix_tup.or ix_str)

/-! ### xs[i] = v, any sign -/
/-- the list's object behind a store -/
theorem mapSeq_set (its : List Value) (n j : Nat) (u : Value) : Obj.mapSeq (·.setIfInBounds j u) { cls := .type "list", data := .seq its.toArray n } = { cls := .type "list", data := .seq (its.set j u).toArray n } := by
  simp [Obj.mapSeq]
theorem Inv.lst {pins : List (Addr × Obj)} {σ : St} {H : Hp} {s : Shared} {p : Addr} {xs : List V} (I : Inv X pins σ H s) (h : H p = some (.lst xs)) :
    ∃ (its : List Value) (n : Nat), Vals xs its ∧ s.heap.get? p = some { cls := .type "list", data := .seq its.toArray n } ∧ xs.length ≤ sizeLine := by
  obtain ⟨z, its, n, r, e⟩ := I.hok p _ h
  exact ⟨its, n, r, e, z⟩
/-- the list at p is written by an update of its object -/
theorem Inv.lstUpd {pins : List (Addr × Obj)} {σ : St} {H : Hp} {s : Shared} {p : Addr} {xs ys : List V} {its its' : List Value} {n n' : Nat} {f : Obj → Obj} (I : Inv X pins σ H s) (h : H p = some (.lst xs))
    (ho : s.heap.get? p = some { cls := .type "list", data := .seq its.toArray n }) (hf : f { cls := .type "list", data := .seq its.toArray n } = { cls := .type "list", data := .seq its'.toArray n' }) (r : Vals ys its') (hz : ys.length ≤ sizeLine) (t : Nat) :
    Inv X pins σ (upd H p (.lst ys)) { s with heap := s.heap.update p f, toks := t } := by
  have e : (s.heap.update p f).get? p = some { cls := .type "list", data := .seq its'.toArray n' } := by
    rw [Heap.get?_update_self f ho (by rw [hf] <;> rfl), hf]
  refine I.write (x := p) (e := p) (by rw [h]; trivial) (.inl rfl) (fun b u hb q => (Heap.get?_update_other _ _ (Ne.symm hb)).trans q) ⟨_, e⟩ ?_
  exact ⟨hz, its', n', r, e⟩
def rSetL : V → V → V → Hp → (Hp → Prop) → Prop := fun o i v H Q => ∃ p xs k j, o = .ref p ∧ i = .int k ∧ H p = some (.lst xs) ∧ ixN xs.length k = some j ∧ Q (upd H p (.lst (xs.set j v)))
theorem set_list : PSet X rSetL := by
  intro pins s σ H o i v ov iv u Q I ro ri rv h
  obtain ⟨p, xs, k, j, rfl, rfl, hp, hj, q⟩ := h
  cases ro
  obtain ⟨t, rfl⟩ := ri
  obtain ⟨its, n, r, ho, hz⟩ := I.lst hp
  obtain ⟨h1, h2, h3, h4⟩ := ixN_seq hj
  have hl := r.length
  have hn := line63
  have I' : Inv X pins σ (upd H p (.lst (xs.set j v))) { s with heap := s.heap.update p (Obj.mapSeq (·.setIfInBounds j u)) } :=
    I.lstUpd hp ho (mapSeq_set its n j u) (r.set rv j) (by rw [List.length_set]; exact hz) s.toks
  by_cases h0 : 0 ≤ k
  · have hk : k.toNat = j := by
      rw [seqIndex_of h0 h4] at h1
      exact Option.some.inj h1
    exact PySem.W.ki_setAt ho h0 (by omega) (by rw [List.size_toArray, ← hl]; exact h4) (by rw [hk]; exact ⟨_, I', q⟩)
  · have hk : (k + (its.toArray.size : Int)).toNat = j := by
      rw [seqIndex_neg (by omega) h3] at h1
      rw [List.size_toArray, ← hl]
      exact Option.some.inj h1
    exact PySem.W.ki_setBack ho (by omega) (by rw [List.size_toArray, ← hl]; exact h3) (by omega) (by rw [hk]; exact ⟨_, I', q⟩)

/-! ### slices -/
theorem slice_bounds (lo hi : Option Int) (n : Nat) : (sliceBounds lo hi none n).1 = ((HT.sIx n 0 lo : Nat) : Int) ∧ (sliceBounds lo hi none n).2.1 = ((HT.sIx n n hi : Nat) : Int) ∧ (sliceBounds lo hi none n).2.2 = 1 := by
  refine ⟨?_, ?_, rfl⟩
  · cases lo with
    | none => simp [sliceBounds, HT.sIx]
    | some i =>
      simp only [sliceBounds, HT.sIx, Option.getD_none, show (1 : Int) > 0 by decide, if_true]
      by_cases h : i < 0
      · simp only [h, if_true] <;> omega
      · simp only [h, if_false] <;> omega
  · cases hi with
    | none => simp [sliceBounds, HT.sIx]
    | some i =>
      simp only [sliceBounds, HT.sIx, Option.getD_none, show (1 : Int) > 0 by decide, if_true]
      by_cases h : i < 0
      · simp only [h, if_true] <;> omega
      · simp only [h, if_false] <;> omega
theorem slicePick_cut (its : List Value) (lo hi : Option Int) : slicePick its.toArray lo hi none = ((its.drop (HT.sIx its.length 0 lo)).take (HT.sIx its.length its.length hi - HT.sIx its.length 0 lo)).toArray := by
  obtain ⟨h1, h2, h3⟩ := slice_bounds lo hi its.toArray.size
  unfold slicePick
  rw [h1, h2, h3]
  simp only [sliceRange_one, pick_run, List.size_toArray] <;> rfl
/-- xs[lo:hi] of a list: a new list -/
def rSlL (K : PySem.W.Frag) : V → Option Int → Option Int → Hp → VK → Prop := fun x lo hi H Q => ∃ a xs, x = .ref a ∧ SqL K H a xs ∧ ∀ p, H p = none → Q (.ref p) (upd H p (.lst (cutV xs lo hi)))
theorem sl_list : SlR X (rSlL X.K) := by
  intro pins s σ H x v vl vu lo hi sl Q I rx hs pl pu h
  obtain ⟨a, xs, rfl, hx, q⟩ := h
  cases rx
  obtain ⟨its, r, ht, hz⟩ := I.list hx
  have hlen := r.length
  refine ⟨"list", _, slot_list_getitem.lookup, ht.isList.typeIs, ?_⟩
  refine wpAny_getItem_list_slice ht.isList hs pl pu .none (by simp) ?_ (by rw [List.size_toArray] <;> omega)
  rw [slicePick_cut, ← hlen]
  refine ⟨.ref s.heap.objs.size, _, I.laid (t' := s.toks) (o := .lst (cutV xs lo hi)) (fun b ob q => Heap.get?_push_of_some _ q) (Nat.le_refl _) ?_, rfl, q _ (I.hok.fresh (Nat.le_refl _))⟩
  exact ⟨Nat.le_trans (cutV_length xs lo hi) hz, _, 0, (r.drop (HT.sIx xs.length 0 lo)).take (HT.sIx xs.length xs.length hi - HT.sIx xs.length 0 lo), Heap.get?_push_size _ rfl⟩

/-! ### in, not in: flat items -/
def flatV : V → Bool
  | .non => true
  | .bl _ => true
  | .int _ => true
  | .str _ => true
  | _ => false
/-- == of flat values -/
def eqV : V → V → Bool
  | .non, .non => true
  | .bl a, .bl b => a == b
  | .bl a, .int b => (if a then 1 else 0) == b
  | .int a, .bl b => a == (if b then 1 else 0)
  | .int a, .int b => a == b
  | .str a, .str b => a == b
  | _, _ => false
theorem eqAt_V {A : Around} {s : Shared} {y x : V} {u v : Value} (ry : RelV y u) (rx : RelV x v) (fy : flatV y = true) (fx : flatV x = true) : SeqAt.EqAt A s u v (eqV y x) := by
  cases y with
  | non =>
    cases ry
    cases x with
    | non => cases rx; exact SeqAt.EqAt.same _
    | bl b => cases rx; exact SeqAt.EqAt.none_bool b
    | int b => obtain ⟨t, rfl⟩ := rx; exact SeqAt.EqAt.none_int b t
    | str b => obtain ⟨t, rfl⟩ := rx; exact SeqAt.EqAt.none_str b t
    | _ => exact absurd (show false = true from fx) Bool.false_ne_true
  | bl a =>
    cases ry
    cases x with
    | non => cases rx; exact SeqAt.EqAt.bool_none a
    | bl b => cases rx; exact SeqAt.EqAt.bool_bool a b
    | int b => obtain ⟨t, rfl⟩ := rx; exact SeqAt.EqAt.bool_int a b t
    | str b => obtain ⟨t, rfl⟩ := rx; exact SeqAt.EqAt.bool_str a b t
    | _ => exact absurd (show false = true from fx) Bool.false_ne_true
  | int a =>
    obtain ⟨t', rfl⟩ := ry
    cases x with
    | non => cases rx; exact SeqAt.EqAt.int_none a t'
    | bl b => cases rx; exact SeqAt.EqAt.int_bool a t' b
    | int b => obtain ⟨t, rfl⟩ := rx; exact SeqAt.EqAt.int_int a t' b t
    | str b => obtain ⟨t, rfl⟩ := rx; exact SeqAt.EqAt.int_str a t' b t
    | _ => exact absurd (show false = true from fx) Bool.false_ne_true
  | str a =>
    obtain ⟨t', rfl⟩ := ry
    cases x with
    | non => cases rx; exact SeqAt.EqAt.str_none a t'
    | bl b => cases rx; exact SeqAt.EqAt.str_bool a t' b
    | int b => obtain ⟨t, rfl⟩ := rx; exact SeqAt.EqAt.str_int a t' b t
    | str b => obtain ⟨t, rfl⟩ := rx; exact SeqAt.EqAt.str_str a t' b t
    | _ => exact absurd (show false = true from fx) Bool.false_ne_true
  | _ => exact absurd (show false = true from fy) Bool.false_ne_true
/-- the items' answers, read off the values (a value's own answer does not lean on its token) -/
def eqU (x : V) (u : Value) : Bool := match u with
  | .none => eqV .non x
  | .bool b => eqV (.bl b) x
  | .int i _ => eqV (.int i) x
  | .str z _ => eqV (.str z) x
  | _ => false
theorem eqU_of {x y : V} {u : Value} (r : RelV y u) (f : flatV y = true) : eqU x u = eqV y x := by
  cases y with
  | non => cases r; rfl
  | bl b => cases r; rfl
  | int i => obtain ⟨t, rfl⟩ := r; rfl
  | str z => obtain ⟨t, rfl⟩ := r; rfl
  | _ => exact absurd (show false = true from f) Bool.false_ne_true
theorem any_eqU {x : V} : ∀ {xs : List V} {us : List Value}, Vals xs us → xs.all flatV = true → us.any (eqU x) = xs.any fun y => eqV y x
  | _, _, .nil, _ => rfl
  | y :: xs, u :: us, .cons r t, f => by
    rw [List.all_cons, Bool.and_eq_true] at f
    rw [List.any_cons, List.any_cons, eqU_of r f.1, any_eqU t f.2]
theorem mem_eqAt {A : Around} {s : Shared} {x : V} {v : Value} (rx : RelV x v) (fx : flatV x = true) : ∀ {xs : List V} {us : List Value}, Vals xs us → xs.all flatV = true → ∀ u ∈ us, SeqAt.EqAt A s u v (eqU x u)
  | _, _, .nil, _ => fun u hu => by cases hu
  | y :: xs, u :: us, .cons r t, f => fun u' hu => by
    rw [List.all_cons, Bool.and_eq_true] at f
    rcases List.mem_cons.mp hu with rfl | hu
    · rw [eqU_of r f.1]; exact eqAt_V r rx f.1 fx
    · exact mem_eqAt rx fx t f.2 u' hu
def inV (x : V) (xs : List V) : Bool := xs.any fun y => eqV y x
/-- x in a list or tuple of flat items -/
def rIn (K : PySem.W.Frag) (neg : Bool) : R2 := fun x y H Q => ∃ p xs, y = .ref p ∧ (SqL K H p xs ∨ SqT K H p xs) ∧ flatV x = true ∧ xs.all flatV = true ∧ Q (.bl (if neg then !inV x xs else inV x xs)) H
theorem op_in_seq : OpR X (compareOp .In) (rIn X.K false) := by
  intro pins s σ H x y v u Q I rx ry h
  obtain ⟨p, xs, rfl, hq, fx, fs, q⟩ := h
  cases ry
  rcases hq with hq | hq
  · obtain ⟨its, r, pl, hz⟩ := I.list hq
    refine SeqAt.in_listAt (eqU x) pl.isList (fun w hw => mem_eqAt rx fx r fs w (by simpa using hw)) ⟨.bl _, H, I, rfl, ?_⟩
    rw [show its.toArray.any (eqU x) = its.any (eqU x) by simp, any_eqU r fs]
    exact q
  · obtain ⟨its, r, pl, hz⟩ := I.tuple hq
    refine SeqAt.in_tupleAt (eqU x) pl (fun w hw => mem_eqAt rx fx r fs w (by simpa using hw)) ⟨.bl _, H, I, rfl, ?_⟩
    rw [show its.toArray.any (eqU x) = its.any (eqU x) by simp, any_eqU r fs]
    exact q
theorem op_notIn_seq : OpR X (compareOp .NotIn) (rIn X.K true) := by
  intro pins s σ H x y v u Q I rx ry h
  obtain ⟨p, xs, rfl, hq, fx, fs, q⟩ := h
  cases ry
  rcases hq with hq | hq
  · obtain ⟨its, r, pl, hz⟩ := I.list hq
    refine SeqAt.notIn_listAt (eqU x) pl.isList (fun w hw => mem_eqAt rx fx r fs w (by simpa using hw)) ⟨.bl _, H, I, rfl, ?_⟩
    rw [show its.toArray.any (eqU x) = its.any (eqU x) by simp, any_eqU r fs]
    exact q
  · obtain ⟨its, r, pl, hz⟩ := I.tuple hq
    refine SeqAt.notIn_tupleAt (eqU x) pl (fun w hw => mem_eqAt rx fx r fs w (by simpa using hw)) ⟨.bl _, H, I, rfl, ?_⟩
    rw [show its.toArray.any (eqU x) = its.any (eqU x) by simp, any_eqU r fs]
    exact q
theorem op_notIn_str : OpR X (compareOp .NotIn) (fun x y H Q => ∃ i j, x = .str i ∧ y = .str j ∧ Q (.bl (!(!(Builtin.Str.occurrences j i 0 j.length 1).isEmpty))) H) := by
  intro pins s σ H x y v u Q I rx ry h
  obtain ⟨i, j, rfl, rfl, q⟩ := h
  obtain ⟨t, rfl⟩ := rx
  obtain ⟨t', rfl⟩ := ry
  exact notIn_str ⟨.bl _, H, I, rfl, q⟩

/-! ### len, list(x), tuple(x) of any list or tuple that is read -/
theorem call_len_seq : CallR X (.builtin "len") (fun xs H Q => ∃ p ys, xs = [.ref p] ∧ (SqL X.K H p ys ∨ SqT X.K H p ys) ∧ Q (.int ys.length) H) := by
  intro pins s σ H xs us Q I r h
  obtain ⟨p, ys, rfl, hq, q⟩ := h
  obtain ⟨u, rfl, rx⟩ := vals1 r
  cases rx
  have hn := line63
  rcases hq with hq | hq
  · obtain ⟨its, r', pl, hz⟩ := I.list hq
    have hlen := r'.length
    exact Calls.call_len_list pl.isList (by simp only [List.size_toArray] <;> omega) ⟨.int ys.length, H, I.tok _, ⟨s.toks + 1, by rw [List.size_toArray, hlen]⟩, q⟩
  · obtain ⟨its, r', pl, hz⟩ := I.tuple hq
    have hlen := r'.length
    exact len_tuple pl (by simp only [List.size_toArray] <;> omega) ⟨.int ys.length, H, I.tok _, ⟨s.toks + 1, by rw [List.size_toArray, hlen]⟩, q⟩
theorem call_len_str : CallR X (.builtin "len") (fun xs H Q => ∃ z, xs = [.str z] ∧ z.length ≤ sizeLine ∧ Q (.int z.length) H) := by
  intro pins s σ H xs us Q I r h
  obtain ⟨z, rfl, hz, q⟩ := h
  obtain ⟨u, rfl, t, rfl⟩ := vals1 r
  have hn := line63
  exact len_str (by omega) ⟨.int z.length, H, I.tok _, ⟨_, rfl⟩, q⟩
theorem CallR.or {f : Value} {r r' : List V → Hp → VK → Prop} (h : CallR X f r) (h' : CallR X f r') : CallR X f (fun xs H Q => r xs H Q ∨ r' xs H Q) := by
  intro pins s σ H xs us Q I rs q
  rcases q with q | q
  · exact h pins s σ H xs us Q I rs q
  · exact h' pins s σ H xs us Q I rs q
theorem call_list_of : CallR X (.type "list") (fun xs H Q => ∃ p ys, xs = [.ref p] ∧ (SqL X.K H p ys ∨ SqT X.K H p ys) ∧ ∀ l, H l = none → Q (.ref l) (upd H l (.lst ys))) := by
  intro pins s σ H xs us Q I r h
  obtain ⟨p, ys, rfl, hq, q⟩ := h
  obtain ⟨u, rfl, rx⟩ := vals1 r
  cases rx
  have fin : ∀ (its : List Value), Vals ys its → ys.length ≤ sizeLine → ∀ (h' : Heap) (c' : Nat), (∀ b o', s.heap.get? b = some o' → h'.get? b = some o') →
      h'.get? s.heap.objs.size = some { cls := .type "list", dict := none, data := .seq its.toArray c', slots := #[] } → EP X pins σ Q (.ref s.heap.objs.size) { s with heap := h' } := fun its r' hz h' c' kp e =>
    ⟨.ref s.heap.objs.size, _, I.laid (t' := s.toks) kp (Nat.le_refl _) (show ObjOk X.prog X.w _ h' _ (.lst ys) from ⟨hz, its, c', r', e⟩), rfl, q _ (I.hok.fresh (Nat.le_refl _))⟩
  rcases hq with hq | hq
  · obtain ⟨its, r', pl, hz⟩ := I.list hq
    have hlen := r'.length
    obtain ⟨o, ho, hc, n, hd⟩ := pl.isList
    exact call_list_seq p (.inl rfl) ho hc hd (fun h' c' kp e => fin its r' hz h' c' kp e) (by simp only [List.size_toArray] <;> omega)
  · obtain ⟨its, r', pl, hz⟩ := I.tuple hq
    have hlen := r'.length
    obtain ⟨o, ho, hc, n, hd⟩ := pl
    exact call_list_seq p (.inr rfl) ho hc hd (fun h' c' kp e => fin its r' hz h' c' kp e) (by simp only [List.size_toArray] <;> omega)
theorem call_tuple_of : CallR X (.type "tuple") (fun xs H Q => ∃ p ys, xs = [.ref p] ∧ ((SqL X.K H p ys ∧ ∀ l, H l = none → Q (.ref l) (upd H l (.tup ys))) ∨ (SqT X.K H p ys ∧ Q (.ref p) H))) := by
  intro pins s σ H xs us Q I r h
  obtain ⟨p, ys, rfl, h⟩ := h
  obtain ⟨u, rfl, rx⟩ := vals1 r
  cases rx
  rcases h with ⟨hq, q⟩ | ⟨hq, q⟩
  · obtain ⟨its, r', pl, hz⟩ := I.list hq
    have hlen := r'.length
    refine call_tuple_list pl.isList (fun h' kp => ?_) (by simp only [List.size_toArray] <;> omega)
    have I1 : Inv X pins σ H { s with heap := h' } := I.kept (t' := s.toks) kp
    have I2 : Inv X pins σ (upd H h'.objs.size (.tup ys)) { s with heap := h'.push { cls := .type "tuple", data := .seq its.toArray } } :=
      I1.laid (t' := s.toks) (fun b o e => Heap.get?_push_of_some _ e) (Nat.le_refl _) (show ObjOk X.prog X.w _ _ _ (.tup ys) from ⟨hz, its, r', IsTup.new _ _⟩)
    exact ⟨.ref h'.objs.size, _, I2, rfl, q _ (I1.hok.fresh (Nat.le_refl _))⟩
  · obtain ⟨its, r', pl, hz⟩ := I.tuple hq
    exact call_tuple_same pl ⟨.ref p, H, I, rfl, q⟩

/-! ### the call of a builtin's method: o.m(..) -/
/-- the value is of that builtin type -/
def tyV (K : PySem.W.Frag) (T : String) (x : V) (H : Hp) : Prop := match x with
  | .str _ => T = "str"
  | .int _ => T = "int"
  | .ref p => (T = "list" ∧ ∃ xs, SqL K H p xs) ∨ (T = "tuple" ∧ ∃ o, K.lookup p = some o ∧ o.cls = .type "tuple" ∧ o.dict = none) ∨
      (T = "dict" ∧ ((∃ kvs, H p = some (.dK kvs)) ∨ ∃ kvs, H p = some (.dT kvs))) ∨ (T = "set" ∧ ∃ S n, H p = some (.set S n))
  | _ => False
theorem tyV_is {pins : List (Addr × Obj)} {σ : St} {H : Hp} {s : Shared} {T : String} {x : V} {v : Value} (I : Inv X pins σ H s) (r : RelV x v) (ty : tyV X.K T x H) :
    s.TypeIs v T ∧ ∀ a, v = .ref a → ∃ ob, s.heap.get? a = some ob ∧ ob.dict = none := by
  cases x with
  | str z =>
    obtain ⟨t, rfl⟩ := r
    cases (show T = "str" from ty)
    exact ⟨typeIs_str s z t, fun _ e => nomatch e⟩
  | int i =>
    obtain ⟨t, rfl⟩ := r
    cases (show T = "int" from ty)
    exact ⟨typeIs_int s i t, fun _ e => nomatch e⟩
  | ref p =>
    cases r
    rcases ty with ⟨rfl, xs, hq⟩ | ⟨rfl, o, hk, hc, hd⟩ | ⟨rfl, hk⟩ | ⟨rfl, S, n, hk⟩
    · obtain ⟨its, _, pl, _⟩ := I.list hq
      refine ⟨pl.isList.typeIs, fun a e => ?_⟩
      cases e
      obtain ⟨o, n, e, c, hd, _⟩ := pl
      exact ⟨o, e, hd⟩
    · refine ⟨⟨o, I.kIn p o hk, hc⟩, fun a e => ?_⟩
      cases e
      exact ⟨o, I.kIn _ o hk, hd⟩
    · have z : ∃ o, s.heap.get? p = some o ∧ o.ExactDict := by
        rcases hk with ⟨kvs, hk⟩ | ⟨kvs, hk⟩
        · obtain ⟨_, _, _, _, o, _, _, e, ex, _⟩ := I.hok p _ hk
          exact ⟨o, e, ex⟩
        · obtain ⟨_, _, _, _, o, _, _, e, ex, _⟩ := I.hok p _ hk
          exact ⟨o, e, ex⟩
      obtain ⟨o, e, ex⟩ := z
      refine ⟨⟨o, e, ex.1⟩, fun a e2 => ?_⟩
      cases e2
      exact ⟨o, e, ex.2.1⟩
    · obtain ⟨o, _, _, _, e, ex, _⟩ := I.hok p _ hk
      refine ⟨⟨o, e, ex.1⟩, fun a e2 => ?_⟩
      cases e2
      exact ⟨o, e, ex.2.1⟩
  | _ => exact False.elim ty
def tBM0 (K : PySem.W.Frag) (T : String) (r : V → List V → Hp → VK → Prop) (to : TE) : TE := fun σ H Q => to σ H fun x H1 => tyV K T x H1 ∧ r x [] H1 Q
def tBM (K : PySem.W.Frag) (T : String) (r : V → List V → Hp → VK → Prop) (to : TE) (t : TA) : TE := fun σ H Q => to σ H fun x H1 => tyV K T x H1 ∧ t σ H1 fun xs H2 => r x xs H2 Q
variable {o e : Expr} {es : List Expr} {to : TE} {t : TA} {name : Str} {apos cpos : Pos} {T id : String} {r : V → List V → Hp → VK → Prop}
theorem pe_bm0 (pa : PlainAttrs T) (slot : Slot T name id) (hty : typeOf (.builtin id) = pure (.type "method_descriptor")) (hm : MtR X id r) (ho : PE X o to)
    (hbase : attributeBase o name X.env (eval o X.env) = eval o X.env := by rfl) (hline : (apos.endLine == cpos.line) = true := by rfl) : PE X (.Call (.Attribute o name apos) [] [] cpos) (tBM0 X.K T r to) := by
  intro pins s σ H Q I h
  refine wpAny_Call_method0_late hbase hline (thn (ho pins s σ H _ I h) fun v s1 ⟨x, H1, I1, r1, ty, q1⟩ => ?_)
  obtain ⟨h1, h2⟩ := tyV_is I1 r1 ty
  exact ⟨T, id, pa, slot, hty, h1, h2, Calls.callWith_builtin rfl (PySem.evalArgs_none (hm pins s1 σ H1 x [] v [] Q I1 r1 .nil q1))⟩
theorem pe_bm (pa : PlainAttrs T) (slot : Slot T name id) (hty : typeOf (.builtin id) = pure (.type "method_descriptor")) (hm : MtR X id r) (ho : PE X o to) (ha : PA X (e :: es) t)
    (hbase : attributeBase o name X.env (eval o X.env) = eval o X.env := by rfl)
    (hfew : ((backTo cpos (starEach (e :: es) X.env)).all (fun x => !x.1) && (backToKw cpos (keywordEach [] X.env)).all (fun x => x.1.isSome)
      && decide ((e :: es).length + ([] : List Keyword).length + (if ([] : List Keyword).isEmpty then 0 else 1) < 30)) = true := by rfl)
    (hline : (apos.endLine == cpos.line) = true := by rfl) (hs : starEach (e :: es) X.env = (false, eval e X.env) :: starEach es X.env := by rfl) (hplain : (backTo cpos (starEach es X.env)).any (·.1) = false := by rfl) :
    PE X (.Call (.Attribute o name apos) (e :: es) [] cpos) (tBM X.K T r to t) := by
  intro pins s σ H Q I h
  refine wpAny_Call_method_late hbase hfew hline rfl (thn (ho pins s σ H _ I h) fun v s1 ⟨x, H1, I1, r1, ty, q1⟩ => ?_)
  obtain ⟨h1, h2⟩ := tyV_is I1 r1 ty
  refine ⟨T, id, pa, slot, hty, h1, h2, ?_⟩
  have hA := ha cpos pins s1 σ H1 _ I1 q1
  rw [hs] at hA ⊢
  refine Calls.callWith_builtin (by show (false || (backTo cpos (starEach es X.env)).any (·.1)) = false; rw [hplain] <;> rfl) (Calls.evalArgs_plain ?_)
  exact thn hA fun us s2 ⟨vs, H2, I2, r2, q2⟩ => hm pins s2 σ H2 x vs v us Q I2 r1 r2 q2
/- xs.append(e), list.index on a module's tuple .. are MtR facts of 06m -/
end
end L2

namespace L2
open PySem PySem.Spec PyProof.Rows

def MtM (X : Cx) (id : String) (r : V → List V → Hp → VK → Prop) : Prop :=
  ∀ (pins : List (Addr × Obj)) (s : Shared) (σ : St) (H : Hp) (x : V) (xs : List V) (v : Value) (us : List Value) (Q : VK), Inv X pins σ H s → RelV x v → Vals xs us → r x xs H Q →
    wpAny (model X.prog X.w) X.A (call (.builtin id) (v :: us)) (EP X pins σ Q) X.xe s

/-! ### lists of values -/
theorem Vals.one : ∀ {x : V} {us : List Value}, Vals [x] us → ∃ u, us = [u] ∧ RelV x u
  | _, _, .cons r .nil => ⟨_, rfl, r⟩
theorem Vals.two : ∀ {x y : V} {us : List Value}, Vals [x, y] us → ∃ u v, us = [u, v] ∧ RelV x u ∧ RelV y v
  | _, _, _, .cons r (.cons q .nil) => ⟨_, _, rfl, r, q⟩
theorem Vals.zero : ∀ {us : List Value}, Vals [] us → us = []
  | _, .nil => rfl
theorem Vals.dropLast {xs : List V} {us : List Value} (h : Vals xs us) : Vals xs.dropLast us.dropLast := by
  induction h with
  | nil => exact .nil
  | cons r t ih =>
    cases t with
    | nil => exact .nil
    | cons q t' => exact .cons r ih
theorem Vals.eraseIdx : ∀ {xs : List V} {us : List Value} (i : Nat), Vals xs us → Vals (xs.eraseIdx i) (us.eraseIdx i)
  | _, _, _, .nil => .nil
  | _, _, 0, .cons _ t => t
  | _, _, i + 1, .cons r t => .cons r (Vals.eraseIdx i t)
theorem Vals.reverse {xs : List V} {us : List Value} (h : Vals xs us) : Vals xs.reverse us.reverse := by
  induction h with
  | nil => exact .nil
  | cons r t ih => rw [List.reverse_cons, List.reverse_cons]; exact Vals.append ih (.cons r .nil)
theorem Vals.rep {xs : List V} {us : List Value} (h : Vals xs us) : ∀ k : Nat, Vals (List.replicate k xs).flatten (List.replicate k us).flatten
  | 0 => .nil
  | k + 1 => by
    rw [List.replicate_succ, List.replicate_succ, List.flatten_cons, List.flatten_cons]
    exact Vals.append h (Vals.rep h k)
theorem erase_last {α : Type} (l : List α) : l.eraseIdx (l.length - 1) = l.dropLast := by
  induction l with
  | nil => rfl
  | cons a r ih =>
    cases r with
    | nil => rfl
    | cons b r =>
      have e : (a :: b :: r).length - 1 = ((b :: r).length - 1) + 1 := by
        have h1 : (a :: b :: r).length = r.length + 2 := rfl
        have h2 : (b :: r).length = r.length + 1 := rfl
        omega
      rw [e, List.eraseIdx_cons_succ, ih]
      all_goals rfl
theorem len_erase {α : Type} : ∀ (l : List α) (i : Nat), (l.eraseIdx i).length ≤ l.length
  | [], _ => Nat.le_refl _
  | _ :: _, 0 => Nat.le_succ _
  | _ :: r, i + 1 => Nat.succ_le_succ (len_erase r i)
theorem foldl_rep (its : List Value) : ∀ (k : Nat) (acc : List Value),
    List.foldl (fun x1 x2 => x1 ++ x2) acc.toArray (List.replicate k its.toArray) = (acc ++ (List.replicate k its).flatten).toArray
  | 0, acc => by simp
  | k + 1, acc => by
    have e : acc.toArray ++ its.toArray = (acc ++ its).toArray := by simp
    have e2 : (acc ++ its) ++ (List.replicate k its).flatten = acc ++ (List.replicate (k + 1) its).flatten := by
      rw [List.replicate_succ, List.flatten_cons, List.append_assoc]
    rw [← e2, ← foldl_rep its k (acc ++ its), ← e, List.replicate_succ, List.foldl_cons]

section
variable {X : Cx} {pins : List (Addr × Obj)} {σ : St} {H : Hp} {s : Shared} {l b : Addr} {xs ys zs : List V}

/-! ### the two steps: a tracked list is rewritten, a new list is laid -/
theorem Inv.lset {its its' : List Value} {n : Nat} {f : Array Value → Array Value} {t' : Nat} (I : Inv X pins σ H s) (hH : H l = some (.lst xs))
    (e : s.heap.get? l = some { cls := .type "list", data := .seq its.toArray n }) (hf : f its.toArray = its'.toArray) (hv : Vals ys its') (hz : ys.length ≤ sizeLine) :
    Inv X pins σ (upd H l (.lst ys)) { s with heap := s.heap.update l (Obj.mapSeq f), toks := t' } := by
  have q := PySem.IsL.update e f
  rw [hf] at q
  refine I.write (x := l) (e := l) (by rw [hH]; exact trivial) (.inl rfl) (fun b' u hb hu => (Heap.get?_update_other s.heap (Obj.mapSeq f) (Ne.symm hb)).trans hu) ⟨_, q⟩ ?_
  exact ⟨hz, its', _, hv, q⟩
theorem Inv.lnew {its : List Value} {t' : Nat} (I : Inv X pins σ H s) (hv : Vals ys its) (hz : ys.length ≤ sizeLine) :
    Inv X pins σ (upd H s.heap.objs.size (.lst ys)) { s with heap := s.heap.push { cls := .type "list", data := .seq its.toArray }, toks := t' } :=
  I.laid (fun _ _ q => Heap.get?_push_of_some _ q) (Nat.le_refl _) ⟨hz, its, 0, hv, Heap.get?_push_size _ rfl⟩
theorem Inv.fresh (I : Inv X pins σ H s) : H s.heap.objs.size = none := I.hok.fresh (Nat.le_refl _)
theorem Inv.lstM (I : Inv X pins σ H s) (hH : H l = some (.lst xs)) : xs.length ≤ sizeLine ∧ ∃ (its : List Value) (n : Nat), Vals xs its ∧ xs.length = its.length ∧ s.heap.get? l = some { cls := .type "list", data := .seq its.toArray n } := by
  obtain ⟨z, its, n, r, e⟩ := I.hok l _ hH
  exact ⟨z, its, n, r, r.length, e⟩

theorem notLongL {n : Nat} (h : n ≤ sizeLine) : Builtin.List.listTooLong n = false := by
  unfold Builtin.List.listTooLong
  exact decide_eq_false (by omega)
end

section
variable {X : Cx}

/-! ### methods -/
def rAppend : V → List V → Hp → VK → Prop := fun x vs H Q => ∃ l xs y, x = .ref l ∧ vs = [y] ∧ H l = some (.lst xs) ∧ xs.length < sizeLine ∧ Q .non (upd H l (.lst (xs ++ [y])))
theorem mt_append : MtM X "list.append" rAppend := by
  intro pins s σ H x vs v us Q I rx rv h
  obtain ⟨l, xs, y, rfl, rfl, hH, hz, q⟩ := h
  cases rx
  obtain ⟨u, rfl, ru⟩ := rv.one
  obtain ⟨z, its, n, r, hl, e⟩ := I.lstM hH
  refine call_meets F.slot_list_append ⟨_, e, rfl⟩ F.entry_list_append (F.args_list_append_2 _ _) (PySem.list_append l its.toArray n u (by rw [List.size_toArray]; omega)) ⟨e, ?_⟩
  refine ⟨.non, _, I.lset (its' := its ++ [u]) hH e (by simp) (r.append (.cons ru .nil)) ?_, rfl, q⟩
  rw [List.length_append, List.length_singleton]
  omega

def rExtend : V → List V → Hp → VK → Prop := fun x vs H Q => ∃ l b xs zs, x = .ref l ∧ vs = [.ref b] ∧ H l = some (.lst xs) ∧ H b = some (.lst zs) ∧ xs.length + zs.length ≤ sizeLine ∧ Q .non (upd H l (.lst (xs ++ zs)))
theorem mt_extend : MtM X "list.extend" rExtend := by
  intro pins s σ H x vs v us Q I rx rv h
  obtain ⟨l, b, xs, zs, rfl, rfl, hH, hB, hz, q⟩ := h
  cases rx
  obtain ⟨u, rfl, ru⟩ := rv.one
  cases ru
  obtain ⟨z, its, n, r, hl, e⟩ := I.lstM hH
  obtain ⟨z2, its2, n2, r2, hl2, e2⟩ := I.lstM hB
  have hsz : its.toArray.size + its2.toArray.size ≤ sizeLine := by rw [List.size_toArray, List.size_toArray]; omega
  have hlong : ¬ (!its.toArray.isEmpty && Builtin.List.listTooLong (its.toArray.size + its2.toArray.size)) = true := by
    rw [notLongL hsz, Bool.and_false]
    exact Bool.false_ne_true
  refine call_meets F.slot_list_extend ⟨_, e, rfl⟩ F.entry_list_extend (F.args_list_extend_2 _ _)
    (AutoSeq1.list_extend_list_list_0 l its.toArray n b its2.toArray n2 hlong (by rw [List.size_toArray]; omega) (by omega)) ⟨e, e2, ?_⟩
  refine ⟨.non, _, I.lset (its' := its ++ its2) hH e (by simp) (r.append r2) ?_, rfl, q⟩
  rw [List.length_append]
  omega

def rPop : V → List V → Hp → VK → Prop := fun x vs H Q => ∃ l xs y, x = .ref l ∧ vs = [] ∧ H l = some (.lst xs) ∧ xs[xs.length - 1]? = some y ∧ Q y (upd H l (.lst xs.dropLast))
theorem mt_pop : MtM X "list.pop" rPop := by
  intro pins s σ H x vs v us Q I rx rv h
  obtain ⟨l, xs, y, rfl, rfl, hH, hy, q⟩ := h
  cases rx
  have hus := rv.zero
  subst hus
  obtain ⟨z, its, n, r, hl, e⟩ := I.lstM hH
  obtain ⟨u, hu, ru⟩ := r.get hy
  have hy' : its.toArray[its.toArray.size - 1]? = some u := by
    show its.toArray[its.length - 1]? = some u
    rw [← Array.getElem?_toList, ← hl]
    exact hu
  refine call_meets F.slot_list_pop ⟨_, e, rfl⟩ F.entry_list_pop (F.args_list_pop_1 _) (MeetsSeq.list_pop_last l its.toArray n u hy' (by rw [List.size_toArray]; omega)) ⟨e, ?_⟩
  refine ⟨y, _, I.lset (its' := its.dropLast) hH e ?_ r.dropLast ?_, ru, q⟩
  · show its.toArray.eraseIdxIfInBounds (its.toArray.size - 1) = its.dropLast.toArray
    rw [List.size_toArray, List.eraseIdxIfInBounds_toArray, erase_last]
  · rw [List.length_dropLast]
    omega

def rPopAt : V → List V → Hp → VK → Prop := fun x vs H Q => ∃ l xs i k y, x = .ref l ∧ vs = [.int i] ∧ H l = some (.lst xs) ∧ -(2 ^ 63) ≤ i ∧ i < 2 ^ 63 ∧ seqIndex? i xs.length = some k ∧ xs[k]? = some y ∧ Q y (upd H l (.lst (xs.eraseIdx k)))
theorem mt_popAt : MtM X "list.pop" rPopAt := by
  intro pins s σ H x vs v us Q I rx rv h
  obtain ⟨l, xs, i, k, y, rfl, rfl, hH, h1, h2, hk, hy, q⟩ := h
  cases rx
  obtain ⟨u, rfl, ru⟩ := rv.one
  obtain ⟨t, rfl⟩ := ru
  obtain ⟨z, its, n, r, hl, e⟩ := I.lstM hH
  obtain ⟨w, hw, rw'⟩ := r.get hy
  refine call_meets F.slot_list_pop ⟨_, e, rfl⟩ F.entry_list_pop (F.args_list_pop_2 _ _)
    (MeetsSeq.list_pop_at l its.toArray n i t k w (fitsIndex_both h1 h2) (by rw [List.size_toArray, ← hl]; exact hk) (by rw [← Array.getElem?_toList]; exact hw) (by rw [List.size_toArray]; omega)) ⟨e, ?_⟩
  refine ⟨y, _, I.lset (its' := its.eraseIdx k) hH e ?_ (r.eraseIdx k) ?_, rw', q⟩
  · show its.toArray.eraseIdxIfInBounds k = (its.eraseIdx k).toArray
    rw [List.eraseIdxIfInBounds_toArray]
  · have := len_erase xs k
    omega

def rReverse : V → List V → Hp → VK → Prop := fun x vs H Q => ∃ l xs, x = .ref l ∧ vs = [] ∧ H l = some (.lst xs) ∧ Q .non (upd H l (.lst xs.reverse))
theorem mt_reverse : MtM X "list.reverse" rReverse := by
  intro pins s σ H x vs v us Q I rx rv h
  obtain ⟨l, xs, rfl, rfl, hH, q⟩ := h
  cases rx
  have hus := rv.zero
  subst hus
  obtain ⟨z, its, n, r, hl, e⟩ := I.lstM hH
  refine call_meets F.slot_list_reverse ⟨_, e, rfl⟩ F.entry_list_reverse (F.args_list_reverse_1 _) (AutoSeq1.list_reverse_list_0 l its.toArray n (by rw [List.size_toArray]; omega)) ⟨e, ?_⟩
  refine ⟨.non, _, I.lset (its' := its.reverse) hH e (by simp) r.reverse ?_, rfl, q⟩
  rw [List.length_reverse]
  omega

def rClear : V → List V → Hp → VK → Prop := fun x vs H Q => ∃ l xs, x = .ref l ∧ vs = [] ∧ H l = some (.lst xs) ∧ Q .non (upd H l (.lst []))
theorem mt_clear : MtM X "list.clear" rClear := by
  intro pins s σ H x vs v us Q I rx rv h
  obtain ⟨l, xs, rfl, rfl, hH, q⟩ := h
  cases rx
  have hus := rv.zero
  subst hus
  obtain ⟨z, its, n, r, hl, e⟩ := I.lstM hH
  refine call_meets F.slot_list_clear ⟨_, e, rfl⟩ F.entry_list_clear (F.args_list_clear_1 _) (AutoSeq1.list_clear_list_0 l its.toArray n (by rw [List.size_toArray]; omega)) ⟨e, ?_⟩
  exact ⟨.non, _, I.lset (its' := []) (ys := []) hH e rfl .nil (Nat.zero_le _), rfl, q⟩

/-! ### list + list, list += list, list * int -/
def rCat : R2 := fun x y H Q => ∃ l b xs zs, x = .ref l ∧ y = .ref b ∧ H l = some (.lst xs) ∧ H b = some (.lst zs) ∧ xs.length + zs.length ≤ sizeLine ∧ ∀ p, H p = none → Q (.ref p) (upd H p (.lst (xs ++ zs)))
theorem op_cat : OpR X (binaryOp .Add) rCat := by
  intro pins s σ H x y v u Q I rx ry h
  obtain ⟨l, b, xs, zs, rfl, rfl, hH, hB, hz, q⟩ := h
  cases rx
  cases ry
  obtain ⟨z, its, n, r, hl, e⟩ := I.lstM hH
  obtain ⟨z2, its2, n2, r2, hl2, e2⟩ := I.lstM hB
  refine PySem.P.add_list e e2 ?_ (by rw [List.size_toArray, List.size_toArray]; omega)
  have ea : its.toArray ++ its2.toArray = (its ++ its2).toArray := by simp
  rw [ea]
  exact ⟨.ref _, _, I.lnew (t' := s.toks) (r.append r2) (by rw [List.length_append]; omega), rfl, q _ I.fresh⟩
/-- a list times an int (a negative one is nothing) -/
def rRep : R2 := fun x y H Q => ∃ l k xs, x = .ref l ∧ y = .int k ∧ H l = some (.lst xs) ∧ -(2 ^ 63) ≤ k ∧ k < 2 ^ 63 ∧ xs.length * k.toNat ≤ sizeLine ∧
  ∀ p, H p = none → Q (.ref p) (upd H p (.lst (List.replicate k.toNat xs).flatten))
theorem len_rep {α : Type} (xs : List α) (k : Nat) : (List.replicate k xs).flatten.length = k * xs.length := by
  induction k with
  | zero => simp
  | succ k ih => rw [List.replicate_succ, List.flatten_cons, List.length_append, ih, Nat.succ_mul, Nat.add_comm]
theorem op_rep : OpR X (binaryOp .Mult) rRep := by
  intro pins s σ H x y v u Q I rx ry h
  obtain ⟨l, k, xs, rfl, rfl, hH, h1, h2, hz, q⟩ := h
  cases rx
  obtain ⟨t, rfl⟩ := ry
  obtain ⟨z, its, n, r, hl, e⟩ := I.lstM hH
  have hlen : its.toArray.size * k.toNat ≤ sizeLine := by rw [List.size_toArray, ← hl]; exact hz
  have hcap : ¬ its.toArray.size * k.toNat > (2 ^ 63 - 1) / 8 := by
    have : (sizeLine : Nat) ≤ (2 ^ 63 - 1) / 8 := by decide
    omega
  have hfit : ¬ (!Builtin.List.listFitsIndex k) = true := by
    rw [fitsIndex_both h1 h2]
    exact Bool.false_ne_true
  have hlong : ¬ Builtin.List.listTooLong (its.toArray.size * k.toNat) = true := by
    rw [notLongL hlen]
    exact Bool.false_ne_true
  have hnew : List.foldl (fun x1 x2 => x1 ++ x2) #[] (List.replicate (if its.toArray.isEmpty = true then 0 else k.toNat) its.toArray) = (List.replicate k.toNat its).flatten.toArray := by
    have f0 : ∀ m : Nat, List.foldl (fun x1 x2 => x1 ++ x2) #[] (List.replicate m its.toArray) = (List.replicate m its).flatten.toArray := fun m => by
      have := foldl_rep its m []
      rw [List.nil_append] at this
      exact this
    rw [f0]
    cases its with
    | nil => simp
    | cons a r' => rw [if_neg (by simp)]
  refine wpAny_binaryOp_repeat_ref (T := "list") (U := "int") (by decide) ⟨_, e, rfl⟩ (fun s' => typeIs_int s' k t) noFill_list_mul F.fills_int_mul F.slot_int_rmul repeat_list F.slot_int_index.lookup
    (call_meets F.slot_int_rmul (typeIs_int s k t) F.entry_int_rmul (F.args_int_rmul_2 _ _) (int___rmul___int_list k t l its.toArray n)
      ⟨e, rfl, ⟨_, e, rfl⟩, call_meets F.slot_list_mul ⟨_, e, rfl⟩ F.entry_list_mul (F.args_list_mul_2 _ _) (AutoListH.list___mul___list_int_3 l its.toArray n k t hfit hcap hlong) ⟨e, ?_⟩⟩)
  rw [hnew]
  exact ⟨.ref _, _, I.lnew (t' := s.toks) (r.rep k.toNat) (by rw [len_rep, Nat.mul_comm]; exact hz), rfl, q _ I.fresh⟩

/-! ### del xs[i] -/
theorem del_list {pins : List (Addr × Obj)} {s : Shared} {σ : St} {H : Hp} {l : Addr} {xs : List V} {i : Int} {t : Tok} {k : Nat} {Q : Unit → Shared → Prop} (I : Inv X pins σ H s) (hH : H l = some (.lst xs))
    (h1 : -(2 ^ 63) ≤ i) (h2 : i < 2 ^ 63) (hk : seqIndex? i xs.length = some k) (h : ∀ s', Inv X pins σ (upd H l (.lst (xs.eraseIdx k))) s' → Q () s') :
    wpAny (model X.prog X.w) X.A (delItem (.ref l) (.int i t)) Q X.xe s := by
  obtain ⟨z, its, n, r, hl, e⟩ := I.lstM hH
  refine PySem.P.delItem_list (k := k) e (fitsIndex_both h1 h2) (by rw [List.size_toArray, ← hl]; exact hk) (h _ ?_) (by rw [List.size_toArray]; omega)
  refine I.lset (its' := its.eraseIdx k) (t' := s.toks) hH e ?_ (r.eraseIdx k) ?_
  · show its.toArray.eraseIdxIfInBounds k = (its.eraseIdx k).toArray
    rw [List.eraseIdxIfInBounds_toArray]
  · have := len_erase xs k
    omega
end

/-! ### xs[a:b] = ys -/
section
variable {prog : Program} {w : World} {A : Around} {E : Value → Shared → Prop} {s : Shared}
theorem splice_eq (its its2 : List Value) (a c : Nat) : its.toArray.extract 0 a ++ its2.toArray ++ its.toArray.extract c its.toArray.size = (its.take a ++ its2 ++ its.drop c).toArray := by
  apply Array.toList_inj.mp
  first
    | (simp
       exact List.take_of_length_le (by simp))
    | simp [List.take_of_length_le]
    | simp
theorem bounds_run {a c n : Nat} (hac : a ≤ c) (hc : c ≤ n) : sliceBounds (some (a : Int)) (some (c : Int)) none n = ((a : Int), (c : Int), 1) := by
  simp only [sliceBounds, Option.getD_none]
  have h1 : ¬ ((a : Int) < 0) := by omega
  have h2 : ¬ ((c : Int) < 0) := by omega
  simp only [h1, h2, if_false, show (1 : Int) > 0 by decide, if_true]
  congr 1
  · omega
  · congr 1; omega
set_option maxRecDepth 100000 in
/-- list.__setitem__ with a slice of step one and another list -/
theorem setItem_slice {l b sl : Addr} {items new : Array Value} {n n2 : Nat} {vl vu : Value} {a c : Nat} {Q : Unit → Shared → Prop}
    (e : s.heap.get? l = some { cls := .type "list", data := .seq items n }) (e2 : s.heap.get? b = some { cls := .type "list", data := .seq new n2 }) (hne : l ≠ b)
    (hs : s.heap.IsSliceOf sl vl vu .none) (pl : IsPart vl (some (a : Int))) (pu : IsPart vu (some (c : Int))) (hac : a ≤ c) (hc : c ≤ items.size)
    (hsz : items.size + new.size ≤ sizeLine) (h : Q () { s with heap := s.heap.update l (Obj.mapSeq fun xs => xs.extract 0 a ++ new ++ xs.extract c xs.size) }) :
    wpAny (model prog w) A (setItem (.ref l) (.ref sl) (.ref b)) Q E s := by
  have hl : s.heap.IsList l items := PySem.IsL.isList e
  have hb : s.heap.IsList b new := PySem.IsL.isList e2
  obtain ⟨os, hos, hcs, hds⟩ := id hs
  have hTs : s.TypeIs (.ref sl) "slice" := ⟨os, hos, hcs⟩
  have hstep : ¬ ((rawPart none == rawInt 0) = true) := Bool.false_ne_true
  have hsame : Builtin.List.listSameRef (.ref l) (.ref b) = false := by
    unfold Builtin.List.listSameRef
    exact beq_eq_false_iff_ne.mpr hne
  have hmax : (max (a : Int) (c : Int)).toNat = c := by omega
  have hz' : ((fun xs : Array Value => xs.extract 0 a ++ new ++ xs.extract c xs.size) items).size ≤ sizeLine + 1 := by
    simp only [Array.size_append, Array.size_extract]
    omega
  unfold setItem
  try with_reducible refine wpAny_holding ?_
  first | refine wpAny_bind (wpAny_pure ?_) | skip
  refine wpAny_bind (wpAny_sequenceKey hl.typeIs (by decide) ?_)
  refine wpAny_bind (wpAny_callSpecial?_slot (name := Str.ofString "__setitem__") hl.typeIs slot_list_setitem
    (wpAny_call_entry slot_list_setitem hl.typeIs entry_list_setitem ?_ (args_list_setitem _ _ _)))
  show wpAny _ _ (Builtin.List.listSubscript? (.ref sl) >>= _) _ _ s
  refine wpAny_bind ?_
  unfold Builtin.List.listSubscript?
  refine wpAny_bind (wpAny_specialOf hTs slice_no_index ?_)
  simp only [Option.isNone_none, if_true]
  refine wpAny_pure ?_
  show wpAny _ _ (typeOf (.ref sl) >>= _) _ _ s
  refine wpAny_bind (wpAny_typeOf hTs ?_)
  first
    | rw [if_neg (by decide)]
    | refine PySem.W.KFB.if_not (by decide) ?_
  rw [listSliceParts_eq]
  refine wpAny_bind (wpAny_bind (wpAny_field hos hds (x := .none) rfl (wpAny_bind (wpAny_listPart .none ?_))))
  rw [if_neg hstep]
  refine wpAny_bind (wpAny_field hos hds (x := vl) rfl (wpAny_bind (wpAny_listPart pl ?_)))
  refine wpAny_bind (wpAny_field hos hds (x := vu) rfl (wpAny_bind (wpAny_listPart pu (wpAny_pure ?_))))
  first
    | simp only [hsame, Bool.false_eq_true, if_false]
    | refine PySem.W.KFB.if_not hsame ?_
    | (dsimp only
       rw [if_neg (by rw [hsame]; exact Bool.false_ne_true)])
  refine wpAny_bind (m := Builtin.List.listAllItems (.ref b) "must assign iterable to extended slice") ?_
  unfold Builtin.List.listAllItems
  refine wpAny_bind (wpAny_typeOf hb.typeIs ?_)
  first
    | refine PySem.W.KFB.if_so (by decide) ?_
    | rw [if_pos (by decide)]
    | simp only [beq_self_eq_true, Bool.true_or, if_true]
  unfold Builtin.List.listItems
  refine wpAny_bind (wpAny_seqItems e2 rfl (wpAny_pure ?_))
  refine wpAny_bind (wpAny_bind (wpAny_seqItems e rfl (wpAny_pure ?_)))
  refine wpAny_bind (wpAny_of_eq ((sliceIndices_raw (some (a : Int)) (some (c : Int)) none items.size (by simp)).trans (congrArg (pure : Int × Int × Int → Sem (Int × Int × Int)) (bounds_run hac hc))) ?_)
  show wpAny _ _ (if ((1 : Int) == 1) = true then _ else _) _ _ s
  rw [if_pos (by decide)]
  refine wpAny_bind (wpAny_rule ?_)
  first
    | simp only [notLongL hsz, Bool.false_eq_true, if_false]
    | refine PySem.W.KFB.if_not (notLongL hsz) ?_
  first | refine wpAny_bind (wpAny_pure ?_) | skip
  show wpAny _ _ (updateSeq l (fun xs => xs.extract 0 ((a : Int)).toNat ++ new ++ xs.extract (max (a : Int) (c : Int)).toNat xs.size) >>= _) _ _ s
  rw [hmax, Int.toNat_natCast]
  refine wpAny_bind (wpAny_updateSeq (hz := Nat.le_trans (Nat.le_add_right _ _) hsz) (_hz' := hz') e rfl ?_)
  refine wpAny_bind (wpAny_letGo ?_)
  first
    | exact wpAny_bind (wpAny_pure (wpAny_pure ⟨.none, rfl, wpAny_pure h⟩))
    | exact wpAny_pure ⟨.none, rfl, wpAny_pure h⟩
end

section
variable {X : Cx}
/-- xs[a:c] = ys of another list, at the value level: sl is the slice object that was just made -/
theorem set_slice {pins : List (Addr × Obj)} {s : Shared} {σ : St} {H : Hp} {l b sl : Addr} {xs ys : List V} {a c : Int} {vl vu : Value} {Q : Unit → Shared → Prop} (I : Inv X pins σ H s)
    (hH : H l = some (.lst xs)) (hB : H b = some (.lst ys)) (hne : l ≠ b) (hs : s.heap.IsSliceOf sl vl vu .none) (ra : RelV (.int a) vl) (rc : RelV (.int c) vu) (h0 : 0 ≤ a) (hac : a ≤ c) (hc : c ≤ xs.length)
    (hz : xs.length + ys.length ≤ sizeLine) (h : ∀ s', Inv X pins σ (upd H l (.lst (xs.take a.toNat ++ ys ++ xs.drop c.toNat))) s' → Q () s') :
    wpAny (model X.prog X.w) X.A (setItem (.ref l) (.ref sl) (.ref b)) Q X.xe s := by
  obtain ⟨ta, rfl⟩ := ra
  obtain ⟨tc, rfl⟩ := rc
  obtain ⟨z, its, n, r, hl, e⟩ := I.lstM hH
  obtain ⟨z2, its2, n2, r2, hl2, e2⟩ := I.lstM hB
  obtain ⟨a', rfl⟩ := Int.eq_ofNat_of_zero_le h0
  obtain ⟨c', rfl⟩ := Int.eq_ofNat_of_zero_le (Int.le_trans h0 hac)
  simp only [Int.toNat_natCast] at h
  refine setItem_slice (a := a') (c := c') e e2 hne hs (.int _ _) (.int _ _) (by omega) (by rw [List.size_toArray]; omega) (by rw [List.size_toArray, List.size_toArray]; omega) (h _ ?_)
  refine I.lset (its' := its.take a' ++ its2 ++ its.drop c') (t' := s.toks) hH e ?_ (Vals.append (Vals.append (r.take _) r2) (r.drop _)) ?_
  · exact splice_eq its its2 a' c'
  · rw [List.length_append, List.length_append, List.length_take, List.length_drop]
    omega
end
end L2

namespace Att
open PySem PySem.W PySem.Calls PyProof.Rows

/-! ### the script -/
theorem ints_of_wellAll {P : Params} {h : Heap} : ∀ (ns : List Int) (vs : List Value), WellAll P h vs (ns.map WData.int) → IntsAre vs ns := by
  intro ns
  induction ns with
  | nil =>
    intro vs w
    rw [List.map_nil] at w
    cases w
    exact .nil
  | cons n ns ih =>
    intro vs w
    rw [List.map_cons] at w
    cases w with
    | cons a b =>
      cases a
      exact .cons _ _ (ih _ b)

theorem script_of {l : OpenLaw} {n : Nat} (hn : l.most = some n) {P : Params} {h : Heap} {args : List WData} {vals : List Value}
    (hpre : l.row.toRowW.claim.pre args = true) (hwl : WellAll P h vals args) :
    ∃ a vs ns, vals = [Value.ref a] ∧ args = [WData.list (ns.map WData.int)] ∧ h.get? a = some { cls := .type "list", data := .seq vs.toArray } ∧ IntsAre vs ns ∧ ns.length ≤ n := by
  have hsh : WShape.hasAll [] args [.list .int] = true := (pre_splitW hpre).1
  have hc : l.pre.holds [] { args := args } = true := (pre_splitW hpre).2
  obtain ⟨d, r, rfl, h1, h2⟩ := hasAllW_cons hsh
  obtain rfl := hasAllW_nil h2
  obtain ⟨xs, rfl, h3⟩ := hasW_list h1
  obtain ⟨ns, rfl⟩ := items_int h3
  have hlen : ns.length ≤ n := by
    unfold OpenLaw.pre at hc
    have h4 : (WTm.not (.lt (.lit (.int (n : Int))) (.len (.arg 0)))).holds [] { args := [.list (ns.map .int)] } = true := by
      have h4 := (holds_andW hc).1
      rw [hn] at h4
      exact h4
    have h5 := condW_of h4 (w_not (w_lt w_lit (w_len_list (w_arg rfl))))
    rw [List.length_map] at h5
    refine Nat.le_of_not_lt fun q => ?_
    have q' : (n : Int) < ((ns.length : Nat) : Int) := by omega
    first
      | (rw [decide_eq_true q'] at h5; exact absurd h5 (by decide))
      | (simp at h5; omega)
  cases hwl with
  | cons w1 w2 =>
    cases w2
    cases w1 with
    | list ho hall => exact ⟨_, _, ns, rfl, rfl, ho, ints_of_wellAll ns _ hall, hlen⟩

theorem post_true (l : OpenLaw) (args : List WData) : l.row.toRowW.claim.post args (.bool true) args = true :=
  postW_of (r := l.row.toRowW) (X := (true == true))
    (show WShape.has [] (.bool true) .bool = true by first | rfl | decide | simp [WShape.has, WShape.arms, WShape.armsAll])
    (show (WTm.eq .res (.lit (.bool true))).value [] { args := args, res := some (.bool true), after := args } = some (.bool (true == true)) from w_eq_bool (w_res rfl) w_lit) rfl

/-! ### the attachment: holds_open's last premise (the goal 'hc' behind k_head) from a wpAny of the law's body -/
theorem attach {l : OpenLaw} {n : Nat} {q : Program} {loose : List Str} {XP : (Str → Option Value) → Heap → Prop} {YP : World → Heap → Prop} {d : DefRec} {x : Str}
    (hn : l.most = some n) (hdf : d.params.defaults = [])
    (hbind : ∀ pm cd doc v : Value, bindArgs (docDef d.name d.params d.body d.scope pm cd doc) ⟨[v], []⟩ = pure [(x, v)])
    (hx : d.scope.names.lookup x = some .local ∨ d.scope.names.lookup x = some .cell)
    (hk : d.scope.kind = .function) (hco : d.scope.isCoroutine = false) (hgen : d.scope.isGenerator = false)
    (body : ∀ (w : World) (s₀ s₁ s : Shared) (mg mb : Str → Option Value) (fa : Addr) (o : Obj) (pm cd doc : Value) (a : Addr) (vs : List Value) (ns : List Int),
      Ground q loose [] XP w s₀ mg mb s₁.heap → YP w s₁.heap →
      s₁.heap.get? fa = some o → o.data = .func (docDef d.name d.params d.body d.scope pm cd doc) → s₁.heap.CodeRec cd d.name → mg d.name = some (.ref fa) →
      s₁.heap.get? a = some { cls := .type "list", data := .seq vs.toArray } → IntsAre vs ns → ns.length ≤ n →
      s.gens = #[] → s.os = s₁.os →
      Fr s₁.heap s₁.heap.objs.size s.heap (bindL (envOfC d.name d.scope s₁.heap.objs.size fa cd).kindOf [(x, .ref a)] fun _ => none) →
      Cl s₁.heap.objs.size (cellsFrom (s₁.heap.objs.size + 1) d.scope.names []) s.heap (bindC (envOfC d.name d.scope s₁.heap.objs.size fa cd).kindOf [(x, .ref a)] fun _ => none) →
      wpAny (model l.prog w) (callerA.deeper (envOfC d.name d.scope s₁.heap.objs.size fa cd)) (execs d.body (envOfC d.name d.scope s₁.heap.objs.size fa cd))
        (fun f s' => f = .ret (.bool true) ∧ OldK s₁.heap s'.heap ∧ s'.os = s₁.os ∧ AllBare s'.gens) (fun _ _ => False) s) :
    WalkO q loose XP YP l.row.toRowW d [] (fun f vs => PySem.call f vs) := by
  intro w s₀ s₁ mg mb G Y fa o pm cd doc dV kV ho hd hcd hD hmg hg args vals as hpre hlay hrd hwl hlo
  obtain rfl : dV = .none := Dflts.none hD hdf
  obtain rfl : kV = .none := Dflts.noKw hD
  obtain ⟨a, vs, ns, rfl, rfl, hobj, hints, hlen⟩ := script_of hn hpre hwl
  refine enter_call ?_
  refine call_cells_ret (o := o) (by rw [depth_caller]; decide) ho (fd_plain hd) G.T.nolimit hcd (hbind pm cd doc (.ref a)) (fun y hy => ?_) (fun h₁ tk F X => ?_) hco hgen hk
  · obtain rfl : y = (x, Value.ref a) := List.mem_singleton.mp hy
    rcases hx with e | e
    · exact .inl e
    · exact .inr ⟨e, cellsFrom_some _ _ _ (.inl e)⟩
  · refine wpAny_mono (body w s₀ s₁ { s₁ with heap := h₁, toks := tk } mg mb fa o pm cd doc a vs ns G Y ho (fd_plain hd) hcd hmg hobj hints hlen hg rfl F X) (fun f s' hq => ?_) (fun _ _ hq => hq)
    obtain ⟨rfl, h2, h3, h4⟩ := hq
    exact ⟨.inl ⟨.bool true, .bool true, [], rfl, fun _ => rfl, .bool true, post_true l _, fun _ => ⟨List.Pairwise.nil, fun _ hm => (nomatch hm)⟩⟩, h2, h3, h4⟩

/-- the same from a codeAny of the CALL (for a layer whose function contracts speak of calls) -/
theorem attach_call {l : OpenLaw} {n : Nat} {q : Program} {loose : List Str} {XP : (Str → Option Value) → Heap → Prop} {YP : World → Heap → Prop} {d : DefRec}
    (hn : l.most = some n) (hdf : d.params.defaults = [])
    (call : ∀ (w : World) (s₀ s₁ : Shared) (mg mb : Str → Option Value) (fa : Addr) (o : Obj) (pm cd doc : Value) (a : Addr) (vs : List Value) (ns : List Int),
      Ground q loose [] XP w s₀ mg mb s₁.heap → YP w s₁.heap →
      s₁.heap.get? fa = some o → o.data = .func (docDef d.name d.params d.body d.scope pm cd doc) → s₁.heap.CodeRec cd d.name → mg d.name = some (.ref fa) →
      s₁.heap.get? a = some { cls := .type "list", data := .seq vs.toArray } → IntsAre vs ns → ns.length ≤ n → s₁.gens = #[] →
      codeAny (model l.prog w) callerA (.call (.ref fa) ⟨[.ref a], []⟩) (fun r s' => r = .ok (.ret (.bool true)) ∧ OldK s₁.heap s'.heap ∧ s'.os = s₁.os ∧ AllBare s'.gens) s₁) :
    WalkO q loose XP YP l.row.toRowW d [] (fun f vs => PySem.call f vs) := by
  intro w s₀ s₁ mg mb G Y fa o pm cd doc dV kV ho hd hcd hD hmg hg args vals as hpre hlay hrd hwl hlo
  obtain rfl : dV = .none := Dflts.none hD hdf
  obtain rfl : kV = .none := Dflts.noKw hD
  obtain ⟨a, vs, ns, rfl, rfl, hobj, hints, hlen⟩ := script_of hn hpre hwl
  refine enter_call (codeAny_mono (call w s₀ s₁ mg mb fa o pm cd doc a vs ns G Y ho (fd_plain hd) hcd hmg hobj hints hlen hg) fun r s' hq => ?_)
  obtain ⟨rfl, h2, h3, h4⟩ := hq
  exact ⟨.inl ⟨.bool true, .bool true, [], rfl, fun _ => rfl, .bool true, post_true l _, fun _ => ⟨List.Pairwise.nil, fun _ hm => (nomatch hm)⟩⟩, h2, h3, h4⟩

/-- the same where the top left finished generators (o_head chose holds_openN): nothing may have changed at all and no generator may be left -/
theorem attachN {l : OpenLaw} {n : Nat} {q : Program} {loose : List Str} {XP : (Str → Option Value) → Heap → Prop} {YP : World → Heap → Prop} {d : DefRec} {x : Str}
    (hn : l.most = some n) (hdf : d.params.defaults = [])
    (hbind : ∀ pm cd doc v : Value, bindArgs (docDef d.name d.params d.body d.scope pm cd doc) ⟨[v], []⟩ = pure [(x, v)])
    (hx : d.scope.names.lookup x = some .local ∨ d.scope.names.lookup x = some .cell)
    (hk : d.scope.kind = .function) (hco : d.scope.isCoroutine = false) (hgen : d.scope.isGenerator = false)
    (body : ∀ (w : World) (s₀ s₁ s : Shared) (mg mb : Str → Option Value) (fa : Addr) (o : Obj) (pm cd doc : Value) (a : Addr) (vs : List Value) (ns : List Int),
      Ground q loose [] XP w s₀ mg mb s₁.heap → YP w s₁.heap →
      s₁.heap.get? fa = some o → o.data = .func (docDef d.name d.params d.body d.scope pm cd doc) → s₁.heap.CodeRec cd d.name → mg d.name = some (.ref fa) →
      s₁.heap.get? a = some { cls := .type "list", data := .seq vs.toArray } → IntsAre vs ns → ns.length ≤ n →
      s.gens = #[] → s.os = s₁.os →
      Fr s₁.heap s₁.heap.objs.size s.heap (bindL (envOfC d.name d.scope s₁.heap.objs.size fa cd).kindOf [(x, .ref a)] fun _ => none) →
      Cl s₁.heap.objs.size (cellsFrom (s₁.heap.objs.size + 1) d.scope.names []) s.heap (bindC (envOfC d.name d.scope s₁.heap.objs.size fa cd).kindOf [(x, .ref a)] fun _ => none) →
      wpAny (model l.prog w) (callerA.deeper (envOfC d.name d.scope s₁.heap.objs.size fa cd)) (execs d.body (envOfC d.name d.scope s₁.heap.objs.size fa cd))
        (fun f s' => f = .ret (.bool true) ∧ (∀ b o, s₁.heap.get? b = some o → s'.heap.get? b = some o) ∧ s'.os = s₁.os ∧ s'.gens = #[]) (fun _ _ => False) s) :
    WalkN q loose XP YP l.row.toRowW d [] (fun f vs => PySem.call f vs) := by
  intro w s₀ s₁ mg mb G Y fa o pm cd doc dV kV ho hd hcd hD hmg hg args vals as hpre hlay hrd hwl hlo
  obtain rfl : dV = .none := Dflts.none hD hdf
  obtain rfl : kV = .none := Dflts.noKw hD
  obtain ⟨a, vs, ns, rfl, rfl, hobj, hints, hlen⟩ := script_of hn hpre hwl
  refine enter_callW ?_
  refine call_cells_ret (o := o) (by rw [depth_caller]; decide) ho (fd_plain hd) G.T.nolimit hcd (hbind pm cd doc (.ref a)) (fun y hy => ?_) (fun h₁ tk F X => ?_) hco hgen hk
  · obtain rfl : y = (x, Value.ref a) := List.mem_singleton.mp hy
    rcases hx with e | e
    · exact .inl e
    · exact .inr ⟨e, cellsFrom_some _ _ _ (.inl e)⟩
  · refine wpAny_mono (body w s₀ s₁ { s₁ with heap := h₁, toks := tk } mg mb fa o pm cd doc a vs ns G Y ho (fd_plain hd) hcd hmg hobj hints hlen hg rfl F X) (fun f s' hq => ?_) (fun _ _ hq => hq)
    obtain ⟨rfl, h2, h3, h4⟩ := hq
    exact ⟨.inl ⟨.bool true, .bool true, [], rfl, fun _ => rfl, .bool true, post_true l _, fun _ => ⟨List.Pairwise.nil, fun _ hm => (nomatch hm)⟩⟩, h2, h3, h4⟩

/-! ### rules over ANY heap (no ledger) from facts about the written part K: the library's own take a ledger (News) for what they write -/
section
variable {prog : Program} {w : World} {A : Around} {E : Value → Shared → Prop} {s : Shared} {K : Frag}

/-- a def of the module, or a method (qual 'C.m'), entered: the frame is the next address; cells behind it -/
theorem call_fn {R : Result → Shared → Prop} {name qual : Str} {params : Arguments} {body : List Stmt} {scope : Scope} {dV kV doc pm cdv ct oc : Value} {an od : Option Addr} {osl : Array (Option Value)} {f : Addr} {args : Args} {binds : List (Str × Value)}
    (X : K.In s.heap) (hlim : s.heap.NoLimit) (ho : K.lookup f = some ⟨oc, od, .func (fnOf name qual params body scope dV kV doc pm an cdv ct), osl⟩) (hcd : codeIn K cdv qual = true) (hroom : A.depth < recursionLimit)
    (hbind : BindsTo s (fnOf name qual params body scope dV kV doc pm an cdv ct) args binds)
    (hkind : (binds.all fun y => scope.names.lookup y.1 == some .local || scope.names.lookup y.1 == some .cell) = true)
    (h : ∀ s₁, InCallC s s.heap.objs.size (bindL (envOfC qual scope s.heap.objs.size f cdv).kindOf binds fun _ => none) (cellsFrom (s.heap.objs.size + 1) scope.names [])
        (bindC (envOfC qual scope s.heap.objs.size f cdv).kindOf binds fun _ => none) s₁ →
      wpAny (model prog w) (A.deeper (envOfC qual scope s.heap.objs.size f cdv)) (execs body (envOfC qual scope s.heap.objs.size f cdv))
        (fun fl s' => R (.ok (.ret (match fl with | .ret v => v | _ => .none))) s')
        (fun e s' => wpAny (model prog w) (A.deeper (envOfC qual scope s.heap.objs.size f cdv)) (leaving (envOfC qual scope s.heap.objs.size f cdv) e) (fun _ s'' => R (.error e) s'') (fun e' s'' => R (.error e') s'') s') s₁)
    (hco : scope.isCoroutine = false) (hgen : scope.isGenerator = false) (hk : scope.kind = .function) : codeAny (model prog w) A (.call (.ref f) args) R s := by
  refine codeAny_call_function hroom (X _ _ ho) rfl hco hgen rfl (codeRec_of X hcd) (hbind _ _ _ _ ?_)
  refine wpAny_newFunctionEnv_cells hk (kindsX hkind _) fun env he s₁ x => ?_
  subst he
  exact ⟨hlim.keeps x.toInCall.keep, codeAny_func (h s₁ x)⟩

/-- C(..): dict at size, instance at size + 1, then __init__ -/
theorem make_obj {R : Result → Shared → Prop} {C fI : Addr} {rest : List Value} {kw : List (Str × Value)}
    (X : K.In s.heap) (hm : makesIn K C = true) (hi : findIn K (.ref C) "__init__" = some (some (.ref fI))) (hf : isFn K (.ref fI) = true)
    (h : codeAny (model prog w) (A.under (.builtin "type.__call__" ⟨.ref C :: rest, kw⟩)) (.call (.ref fI) ⟨.ref (s.heap.objs.size + 1) :: rest, kw⟩) (InitBack (s.heap.objs.size + 1) R)
      { s with heap := (s.heap.push emptyDict).push (instObj C s.heap.objs.size) }) : codeAny (model prog w) A (.call (.ref C) ⟨rest, kw⟩) R s := by
  obtain ⟨hh, g, d, t, os⟩ := s
  exact make_core (makes_of X hm) (looks_findIn X hi) (fun self => bind_fn X self (beq_iff_eq.mp hf)) (.inl rfl) h

/-- x.name where the instance's dict holds the name and the class does not -/
theorem get_field {x C : Addr} {ox : Obj} {es : List DictEntry} {n : Nat} {name : Str} {expr : Bool} {v : Value} {Q : Value → Shared → Prop}
    (X : K.In s.heap) (I : PySem.W.InstAt s.heap x ox C (some (dictOf es n))) (hg : plainGet K C name = true) (hh : hasDictIn K C = true) (ha : findIn K (.ref C) name = some none)
    (hl : getL name es = some (some v)) (hv : handedIn v = true) (h : Q v { s with toks := s.toks + 1 }) : wpAny (model prog w) A (getAttr (.ref x) name expr) Q E s :=
  get_value X I (plainGet_of hg).1 (findObj_own hh ha rfl hl) hv h

/-- x.m(..): the method found in the class -/
theorem get_method {x C f : Addr} {ox : Obj} {es : List DictEntry} {n : Nat} {name : Str} {pl : Sem Bool} {Q : Value × List Value → Shared → Prop}
    (X : K.In s.heap) (I : PySem.W.InstAt s.heap x ox C (some (dictOf es n))) (hg : plainGet K C name = true) (hf : findIn K (.ref C) name = some (some (.ref f))) (ht : isFn K (.ref f) = true)
    (hl : getL name es = some none) (h : Q (.ref f, [.ref x]) s) : wpAny (model prog w) A (getMethod (.ref x) name pl) Q E s :=
  method_fn X I (plainGet_of hg).1 (plainGet_of hg).2 hf (beq_iff_eq.mp ht) (by show (lookIn name (dictOf es n)).map _ = _; rw [lookIn_dict, hl]; rfl) h

/-! the whole heap as the ledger: makes every rule that writes through a ledger a rule over any heap -/
def noObjs (h : Heap) : Heap := { h with objs := #[] }
theorem noObjs_get (h : Heap) (b : Addr) : (noObjs h).get? b = none := by
  cases e : (noObjs h).get? b with
  | none => rfl
  | some o => exact absurd (Heap.lt_size e) (Nat.not_lt_zero _)
def ledger (h : Heap) (L d : Addr) : List (Addr × Obj) := (List.range h.objs.size).filterMap fun a => if a = L ∨ a = d then none else (h.get? a).map fun o => (a, o)
theorem mem_ledger {h : Heap} {L d a : Addr} {o : Obj} : (a, o) ∈ ledger h L d ↔ a ≠ L ∧ a ≠ d ∧ h.get? a = some o := by
  unfold ledger
  rw [List.mem_filterMap]
  constructor
  · rintro ⟨b, _, e⟩
    split at e
    · cases e
    · rename_i hb
      obtain ⟨o', ho, e'⟩ := Option.map_eq_some_iff.mp e
      cases e'
      exact ⟨fun q => hb (.inl q), fun q => hb (.inr q), ho⟩
  · rintro ⟨n1, n2, ho⟩
    refine ⟨a, List.mem_range.mpr (Heap.lt_size ho), ?_⟩
    rw [if_neg (show ¬ (a = L ∨ a = d) from fun q => q.elim n1 n2), ho] <;> rfl
theorem news_ledger {h : Heap} {L d : Addr} {od : Obj} (hne : d ≠ L) (ho : h.get? d = some od) : News (noObjs h) L h ([] ++ (d, od) :: ledger h L d) := by
  rintro ⟨a, o⟩ hp
  rcases List.mem_cons.mp hp with e | hp
  · cases e
    exact ⟨ho, hne, noObjs_get _ _⟩
  · obtain ⟨n1, n2, e⟩ := mem_ledger.mp hp
    exact ⟨e, n1, noObjs_get _ _⟩
theorem fr_all {h : Heap} {L : Addr} {m : Str → Option Value} (n : h.Ns L m) : Fr (noObjs h) L h m :=
  ⟨n, fun b o e => (by rw [noObjs_get] at e; cases e), Nat.zero_le _⟩
/-- Upd of the head entry (for append_K, setItem_K ..) -/
theorem upd_ledger {h : Heap} {L d : Addr} {o o' : Obj} : Upd d o o' ((d, o) :: ledger h L d) ((d, o') :: ledger h L d) :=
  .head fun ⟨_, _⟩ hp => (mem_ledger.mp hp).2.1

/-- x.name = v over any heap: L is any namespace of the heap (the frame's, say): its map stays, its object is not told; all else but the dict stays -/
theorem set_field {x C dx L : Addr} {ox : Obj} {m : Str → Option Value} {es es' : List DictEntry} {n n' : Nat} {name : Str} {v : Value} {Q : Unit → Shared → Prop}
    (X : K.In s.heap) (I : PySem.W.InstAt s.heap x ox C (some (dictOf es n))) (hd : ox.dict = some dx) (hL : s.heap.Ns L m) (hne : dx ≠ L)
    (hs : findIn K (.ref C) "__setattr__" = some (some (.builtin "object.__setattr__"))) (hp : plainOver K C = true) (ht : takerIn K C name = some none) (hh : hasDictIn K C = true) (hl : (getL name es).isSome = true)
    (e : (putL name (PyData.keyHash w.params name) (.str name (s.toks + 1)) v es, putN name es n) = (es', n')) (hz : es'.length ≤ 1000)
    (h : ∀ h' : Heap, h'.Ns L m → h'.get? dx = some (dictOf es' n') → (∀ b o, b ≠ dx → b ≠ L → s.heap.get? b = some o → h'.get? b = some o) → Q () { s with heap := h', toks := s.toks + 2 }) :
    wpAny (model prog w) A (setAttr (.ref x) name v) Q E s := by
  obtain ⟨e1, e2⟩ := Prod.mk.inj e
  have hdx : s.heap.get? dx = some (dictOf es n) := by
    have := I.dict
    rw [hd] at this
    exact this
  refine set_plain X I hs (osa_dict (s := { s with toks := s.toks + 1 }) (h₀ := noObjs s.heap) (L := L) (m := m) (od := dictOf es n) (od' := dictOf es' n') (es := es') (n := n') (pre := []) (post := ledger s.heap L dx)
    (fr_all hL) (news_ledger hne hdx) X I hd hp ht hh hl (fun _ q => nomatch q) (fun ⟨_, _⟩ q => (mem_ledger.mp q).2.1) (by rw [putName_dict, e1, e2]) rfl hz fun h' F' N' => ?_)
  exact h h' F'.ns (N'.get (List.Mem.head _)) fun b o n1 n2 ho => N'.get (List.Mem.tail _ (mem_ledger.mpr ⟨n2, n1, ho⟩))
end
end Att

namespace L2
open PySem PySem.Spec PyProof.Rows

theorem vals_ints : ∀ {vs : List Value} {ns : List Int}, IntsAre vs ns → Vals (ns.map V.int) vs
  | _, _, .nil => .nil
  | _, _, .cons n t h => .cons ⟨t, rfl⟩ (vals_ints h)

/-- nothing is tracked but the script, known to the object (or it is an object of the module) -/
def Only (H : Hp) : Prop := ∀ b, H b = none ∨ ∃ o xs, H b = some (.frz o (.lst xs))

/-- THE HEAD: the law's promise, at the heap behind the top. F, the promise of the law's def, may use that base is part of the heap (so K.In base, base.Ns mainGlobals mg stand in Mod) -/
theorem law_call {P : Program} {w : World} {K : PySem.W.Frag} {mg mb : Str → Option Value} {CX : CXT} {k : Nat} {fa a : Addr} {fd : FuncData} {x : Str} {sp : Sp} {s₁ : Shared} {vs : List Value} {ns : List Int}
    (KX : K.In s₁.heap) (hns : s₁.heap.Ns mainGlobals mg) (hb : s₁.heap.Ns builtinsNs mb) (hbb : ∀ x : Str, x ≠ "__name__" → mb x = bootBuiltins x) (hlim : s₁.heap.NoLimit) (hg : s₁.gens = #[])
    (ha : s₁.heap.get? a = some { cls := .type "list", data := .seq vs.toArray }) (hi : IntsAre vs ns) (hl : ns.length ≤ sizeLine) (hr : Room k callerA)
    (F : ∀ base : Heap, K.In base → base.Ns mainGlobals mg → FnOk P w K mg base CX k fa fd [x] sp) (hbind : ∀ (s : Shared) (u : Value), BindsTo s fd ⟨[u], []⟩ [(x, u)])
    (hsp : ∀ H : Hp, Only H → SqL K H a (ns.map V.int) → sp [.ref a] H (fun v _ => v = .bl true) fun _ _ _ => False)
    (hCX : ∀ H e s', CX [] H s₁ (fun _ _ _ => False) e s' → False) :
    codeAny (model P w) callerA (.call (.ref fa) ⟨[.ref a], []⟩) (fun r s' => r = .ok (.ret (.bool true)) ∧ OldK s₁.heap s'.heap ∧ s'.os = s₁.os ∧ AllBare s'.gens) s₁ := by
  have rv := vals_ints hi
  have lenV := hi.length
  -- from an abstract heap in which nothing but the script may be tracked
  have core : ∀ H : Hp, Only H → SqL K H a (ns.map V.int) → HOk P w H s₁.heap → (∀ b, H b ≠ none → b = a) → (H a ≠ none → K.lookup a = none) →
      codeAny (model P w) callerA (.call (.ref fa) ⟨[.ref a], []⟩) (fun r s' => r = .ok (.ret (.bool true)) ∧ OldK s₁.heap s'.heap ∧ s'.os = s₁.os ∧ AllBare s'.gens) s₁ := by
    intro H hO hS hok hA hK
    have base_of : ∀ {b : Addr} {o : Obj}, s₁.heap.get? b = some o → H b = none → (hidT s₁.heap H).get? b = some o := fun e n => hidT_get e n
    have noA : ∀ {b : Addr} {o : Obj} {es : Array DictEntry} {ep : Nat}, s₁.heap.get? b = some o → o.data = .dict es ep → H b = none := fun {b o es ep} e d => by
      cases q : H b with
      | none => rfl
      | some u =>
        have e' : b = a := hA b (by rw [q]; simp)
        subst e'
        rw [ha] at e; cases e
        have d' : Data.seq vs.toArray _ = Data.dict es ep := d
        cases d'
    have nsK : ∀ {b : Addr} {m : Str → Option Value}, s₁.heap.Ns b m → (hidT s₁.heap H).Ns b m := fun {b m} ⟨o, es, ep, e, d, r⟩ => ⟨o, es, ep, base_of e (noA e d), d, r⟩
    have hKb : K.In (hidT s₁.heap H) := fun b o e => base_of (KX b o e) (by
      cases q : H b with
      | none => rfl
      | some u =>
        have e' : b = a := hA b (by rw [q]; simp)
        subst e'
        rw [hK (by rw [q]; simp)] at e; cases e)
    have hM : Mod K mg (hidT s₁.heap H) := ⟨hKb, nsK hns, ⟨mb, nsK hb, hbb⟩, let ⟨mc, h1, h2⟩ := hlim; ⟨mc, nsK h1, h2⟩⟩
    have e0 : Env0 P w K mg (hidT s₁.heap H) callerA [] s₁ H := ⟨rfl, hM, fun b o e => of_hidT e, Nat.le_of_eq (hidT_size _ _), trivial, fun b hb => absurd (show b ∈ ([] : List Addr) from hb) (by simp), hok, .of_eq hg⟩
    refine codeAny_mono ((F _ hKb (nsK hns)).run callerA [] s₁ H ⟨[.ref a], []⟩ [.ref a] [.ref a] _ _ hr e0 (hbind s₁ (.ref a)) (.cons rfl .nil) (hsp H hO hS)) fun r s' h => ?_
    cases r with
    | error e => exact (hCX H e s' h).elim
    | ok fl =>
      cases fl with
      | next => exact False.elim h
      | brk => exact False.elim h
      | cont => exact False.elim h
      | ret u =>
        obtain ⟨v, H', os, bare, un, hok', r', q⟩ := h
        have q' : v = .bl true := q
        subst q'
        obtain rfl : u = Value.bool true := r'
        refine ⟨rfl, OldK.of_keep fun b o e => ?_, os, bare⟩
        cases q : H b with
        | none => exact un.keep b o e q (by intro z; exact absurd (show b ∈ ([] : List Addr) from z) (by simp)) (by simp)
        | some u =>
          rcases hO b with z | ⟨ob, xs, z⟩
          · rw [q] at z; cases z
          · have z2 := un.frzs b ob _ z
            obtain ⟨e1, _⟩ := hok b _ z
            obtain ⟨e2, _⟩ := hok' b _ z2
            rw [e] at e1; cases e1
            exact e2
  cases hk : K.lookup a with
  | some o =>
    -- the script is one of the module's own objects
    have e := KX a o hk
    rw [ha] at e
    cases e
    refine core (fun _ => none) (fun _ => .inl rfl) (.inr ⟨_, vs.toArray, _, hk, rfl, rfl, rfl, by rw [List.size_toArray, lenV]; exact hl, by simpa using rv⟩) (fun b u z => by have z' : (none : Option HO) = some u := z; cases z') (fun b z => absurd rfl z) fun z => absurd rfl z
  | none =>
    refine core (fun b => if b = a then some (.frz { cls := .type "list", data := .seq vs.toArray } (.lst (ns.map V.int))) else none) (fun b => ?_) (.inl (.inr ⟨{ cls := .type "list", data := .seq vs.toArray }, if_pos rfl⟩)) (fun b u z => ?_) (fun b z => ?_) fun _ => hk
    · by_cases hb : b = a
      · exact .inr ⟨_, _, if_pos hb⟩
      · exact .inl (if_neg hb)
    · by_cases hb : b = a
      · have z' := (if_pos hb).symm.trans z
        cases z'
        subst hb
        exact ⟨ha, by rw [List.length_map]; exact hl, vs, _, rv, ha⟩
      · have z' := (if_neg hb).symm.trans z
        cases z'
    · by_cases hb : b = a
      · exact hb
      · exact absurd (if_neg hb) z
end L2

namespace L2
open PySem PySem.Spec PyProof.Rows

abbrev KOf {K : PySem.W.Frag} {h : Heap} (_ : K.In h) : PySem.W.Frag := K

/-- the goal that k_head leaves (case hc), from the law's promise. F gives the function object fd (K's own) once, then the promise over every base -/
theorem walk_of {l : PySem.W.OpenLaw} {n k : Nat} {q : Program} {loose : List Str} {XP : (Str → Option Value) → Heap → Prop} {YP : World → Heap → Prop} {d : DefRec} {K : Params → PySem.W.Frag} {CX : World → CXT} {sp : World → Sp} {x : Str}
    (hn : l.most = some n) (hn2 : n ≤ sizeLine) (hdf : d.params.defaults = []) (hr : Room k callerA)
    (hY : ∀ (w : World) (h : Heap), YP w h → (K w.params).In h)
    (F : ∀ (w : World) (mg : Str → Option Value) (fa : Addr) (h : Heap), (K w.params).In h → h.Ns mainGlobals mg → mg d.name = some (.ref fa) →
      ∃ fd : FuncData, (∀ (s : Shared) (u : Value), BindsTo s fd ⟨[u], []⟩ [(x, u)]) ∧
        ∀ base : Heap, (K w.params).In base → base.Ns mainGlobals mg → FnOk l.prog w (K w.params) mg base (CX w) k fa fd [x] (sp w))
    (hsp : ∀ (w : World) (H : Hp) (a : Addr) (ns : List Int), ns.length ≤ n → Only H → SqL (K w.params) H a (ns.map V.int) → sp w [.ref a] H (fun v _ => v = .bl true) fun _ _ _ => False)
    (hCX : ∀ (w : World) (H : Hp) (s : Shared) (e : Value) (s' : Shared), CX w [] H s (fun _ _ _ => False) e s' → False) :
    PySem.W.WalkO q loose XP YP l.row.toRowW d [] (fun f vs => PySem.call f vs) := by
  refine Att.attach_call hn hdf fun w s₀ s₁ mg mb fa o pm cd doc a vs ns G Y ho hd hcd hmg hobj hints hlen hg => ?_
  have KX := hY w _ Y
  obtain ⟨fd, hb, hF⟩ := F w mg fa _ KX G.T.g hmg
  exact law_call KX G.T.g G.T.b G.T.builtins G.T.nolimit hg hobj hints (Nat.le_trans hlen hn2) hr hF hb (fun H hO hS => hsp w H a ns hlen hO hS) fun H e s' => hCX w H s₁ e s'
/-- the same where the promise hangs on the written part alone: (sp := My.sp_law), no hole under a binder -/
theorem walk_ofK {l : PySem.W.OpenLaw} {n k : Nat} {q : Program} {loose : List Str} {XP : (Str → Option Value) → Heap → Prop} {YP : World → Heap → Prop} {d : DefRec} {K : Params → PySem.W.Frag} {CX : CXT} {sp : PySem.W.Frag → Sp} {x : Str}
    (hn : l.most = some n) (hn2 : n ≤ sizeLine) (hdf : d.params.defaults = []) (hr : Room k callerA)
    (hY : ∀ (w : World) (h : Heap), YP w h → (K w.params).In h)
    (F : ∀ (w : World) (mg : Str → Option Value) (fa : Addr) (h : Heap), (K w.params).In h → h.Ns mainGlobals mg → mg d.name = some (.ref fa) →
      ∃ fd : FuncData, (∀ (s : Shared) (u : Value), BindsTo s fd ⟨[u], []⟩ [(x, u)]) ∧
        ∀ base : Heap, (K w.params).In base → base.Ns mainGlobals mg → FnOk l.prog w (K w.params) mg base CX k fa fd [x] (sp (K w.params)))
    (hsp : ∀ (K : PySem.W.Frag) (H : Hp) (a : Addr) (ns : List Int), ns.length ≤ n → Only H → SqL K H a (ns.map V.int) → sp K [.ref a] H (fun v _ => v = .bl true) fun _ _ _ => False)
    (hCX : ∀ (H : Hp) (s : Shared) (e : Value) (s' : Shared), CX [] H s (fun _ _ _ => False) e s' → False) :
    PySem.W.WalkO q loose XP YP l.row.toRowW d [] (fun f vs => PySem.call f vs) :=
  walk_of (K := K) (CX := fun _ => CX) (sp := fun w => sp (K w.params)) hn hn2 hdf hr hY F (fun w H a ns h1 h2 h3 => hsp (K w.params) H a ns h1 h2 h3) fun _ H s e s' => hCX H s e s'
end L2

/- THE LAST THEOREM (shape; LID, My.* are yours):
   My.Adr: a structure of the addresses that your layer names (classes, functions); My.Txt K t: a structure (Prop) of the equations over K;
   My.txt_mk : {K} {implicit addresses ..} (e1 : nsIn K mainGlobals "law" = some (some (.ref f))) (e2 : K.lookup f = some ⟨oc, od, .func (fnOf "law" "law" params body scope dV kV doc pm an cdv ct), sl⟩) (e3 : codeIn K cdv "law" = true) .. : ∃ t, My.Txt K t

set_option maxRecDepth 100000 in
set_option maxHeartbeats 0 in
theorem PySem.Challenge.cw_LID_holds : PySem.Challenge.rw_LID.Holds := by
  w_on; o_law; k_head; (case hw => w_witness2)
  k_fill
  refine L2.walk_of (l := PySem.Challenge.rw_LID) (n := 63) (k := 40) (x := "script") (CX := fun w => ..) (sp := fun _ => My.sp_law) rfl (by decide) rfl ⟨rfl, by decide, by decide⟩ (fun w h Y => PySem.W.kIn_of Y) ?F ?S ?C
  case F =>
    intro w mg fa h KX G hmg
    have T : ∃ t, My.Txt (L2.KOf KX) t := by
      dsimp only [L2.KOf]                          -- K must stand as «<heap const> w.params» for k_is
      refine' My.txt_mk ?e1 ?e2 ?e3 ..
      (case e1 => PySem.W.k_is)                    -- in the order: a name -> its address -> its object -> its parts
      (case e2 => PySem.W.k_is)
      ..
    obtain ⟨t, T⟩ := T
    have e0 := hmg.symm.trans (PySem.W.mg_of KX G T.law)
    cases e0                                       -- fa is the law's own address
    exact ⟨_, fun s u => .of_eq rfl, fun base kb nb => My.law_fn T kb nb⟩     -- if «.of_eq rfl» comes too early: refine' ⟨_, ?b, fun base kb nb => My.law_fn T kb nb⟩; exact fun s u => .of_eq rfl
  case S => exact fun w H a ns hl hO hS => ..
  case C => exact ..
(the tactic k_is has no namespace: write k_is) -/

/-! SHORT WORDS over the layer: a def of the text, its body, what a loop and a test want. -/
namespace L2
open PySem PySem.Spec PyProof.Rows

/-! ### the text by places -/
/-- the j-th statement of a class's body -/
def inClass (s : Stmt) (j : Nat) : Stmt := match s with
  | .ClassDef _ _ _ body _ _ _ _ _ _ _ => body.getD j (.Pass ⟨0, 0, 0, 0⟩)
  | _ => .Pass ⟨0, 0, 0, 0⟩
def defArgs (s : Stmt) : Arguments := match s with
  | .FunctionDef _ a _ _ _ _ _ _ _ _ => a
  | _ => { posonlyargs := [], args := [], vararg := none, kwonlyargs := [], kw_defaults := [], kwarg := none, defaults := [] }
def defBody (s : Stmt) : List Stmt := match s with
  | .FunctionDef _ _ b _ _ _ _ _ _ _ => b
  | _ => []
def defScope (s : Stmt) : Scope := match s with
  | .FunctionDef _ _ _ _ _ _ sc _ _ _ => sc
  | _ => { kind := .function, names := [], isGenerator := false, isCoroutine := false }

/-! ### no exception leaves a def -/
abbrev CX0 : CXT := fun _ _ _ _ _ _ => False
abbrev E0 : XK := fun _ _ _ => False
theorem pass0 {X : Cx} : Passes CX0 X E0 := fun _ _ _ _ _ _ _ h => h.elim

/-! ### a def (or method) of the text as it stands behind the top -/
structure Fun (K : PySem.W.Frag) (x qual : Str) (st : Stmt) (f : Addr) (fd : FuncData) : Prop where
  ex : ∃ (oc : Value) (od : Option Addr) (kV doc pm : Value) (an : Option Addr) (cdv ct : Value) (osl : Array (Option Value)),
    fd = PySem.W.fnOf x qual (defArgs st) (defBody st) (defScope st) .none kV doc pm an cdv ct ∧ K.lookup f = some ⟨oc, od, .func fd, osl⟩ ∧ PySem.W.codeIn K cdv qual = true
  kp : PySem.W.keepIn K (.ref f) = true
section
variable {P : Program} {w : World} {K : PySem.W.Frag} {mg : Str → Option Value} {base : Heap}
/-- THE RULE for a def: its body as a term of rules, and the reading of that term -/
theorem Fun.ok {x qual : Str} {st : Stmt} {f : Addr} {fd : FuncData} {N ps : List Str} {k : Nat} {sp : Sp} (F : Fun K x qual st f fd) (S : FnScope N ps (defScope st)) (len : ∀ vs H Q E, sp vs H Q E → vs.length = ps.length)
    (hbody : ∀ (cdv : Value) (A : Around) (outer : List Env) (s : Shared) (H : Hp) (vs : List V) (Q : VK) (E : XK), Room k (A.deeper (envOfC qual (defScope st) s.heap.objs.size f cdv)) → sp vs H Q E →
      ∃ t, PSs (cxOf CX0 P w K mg base N qual (defScope st) f cdv A outer s H E).nox (defBody st) t ∧ t { nx := fun _ H' => Q .non H', rt := Q } (start N vs) H) : FnOk P w K mg base CX0 (k + 1) f fd ps sp := by
  obtain ⟨oc, od, kV, doc, pm, an, cdv, ct, osl, rfl, lk, hcd⟩ := F.ex
  refine fn_of lk hcd S len fun A outer s H vs Q E hr hsp => ?_
  obtain ⟨t, h, q⟩ := hbody cdv A outer s H vs Q E hr hsp
  exact ⟨t, h.nox, q⟩
/-- how its arguments bind (no defaults): h is «fun _ _ _ _ _ _ us hl => match us, hl with | [_, _], _ => rfl», one _ a parameter -/
theorem Fun.binds {x qual : Str} {st : Stmt} {f : Addr} {fd : FuncData} {ps : List Str} (F : Fun K x qual st f fd)
    (h : ∀ (kV doc pm : Value) (an : Option Addr) (cdv ct : Value) (us : List Value), us.length = ps.length → bindArgs (PySem.W.fnOf x qual (defArgs st) (defBody st) (defScope st) .none kV doc pm an cdv ct) ⟨us, []⟩ = pure (ps.zip us)) : Binds K fd ps [] := by
  obtain ⟨oc, od, kV, doc, pm, an, cdv, ct, osl, rfl, lk, hcd⟩ := F.ex
  exact .all (h kV doc pm an cdv ct)
theorem fun_mk {x qual : Str} {st : Stmt} {f : Addr} {oc : Value} {od an : Option Addr} {osl : Array (Option Value)} {kV doc pm cdv ct : Value} (l : K.lookup f = some ⟨oc, od, .func (PySem.W.fnOf x qual (defArgs st) (defBody st) (defScope st) .none kV doc pm an cdv ct), osl⟩)
    (c : PySem.W.codeIn K cdv qual = true) (k : PySem.W.keepIn K (.ref f) = true) : Fun K x qual st f (PySem.W.fnOf x qual (defArgs st) (defBody st) (defScope st) .none kV doc pm an cdv ct) := ⟨⟨oc, od, kV, doc, pm, an, cdv, ct, osl, rfl, l, c⟩, k⟩
end
theorem hu_of {A : Around} {k : Nat} (hr : Room k A) : A.units + 1 < cLine := Nat.lt_of_le_of_lt (Nat.add_le_add_left (by decide : 1 ≤ 64) _) hr.units
theorem small1000 {n : Nat} (h : n ≤ 1000) : n < sizeLine := Nat.lt_of_le_of_lt h (by decide)

/-! ### expressions in short: the name that stands in the i-th slot -/
section
variable {X : Cx}
theorem pv (i : Nat) {x : Str} {pos : Pos} (hN : X.N[i]? = some x := by rfl) (hv : Vis X.env.scope x := by first | exact Or.inl rfl | exact Or.inr (Or.inl rfl) | exact Or.inr (Or.inr rfl)) (hd : (x == ("__debug__" : Str)) = false := by decide)
    (hcd : (x == ("__classdict__" : Str)) = false := by decide) : PE X (.Name x pos) (tVar i) := pe_var hN hv hd hcd
end

/-! ### tests -/
theorem iteF {A B : Prop} (h : B) : if false = true then A else B := by
  rw [if_neg Bool.false_ne_true]
  exact h
theorem iteT {A B : Prop} (h : A) : if true = true then A else B := by
  rw [if_pos rfl]
  exact h
theorem ite2 {c A B : Prop} [Decidable c] (h1 : c → A) (h2 : ¬ c → B) : if c then A else B := by
  by_cases h : c
  · rw [if_pos h]
    exact h1 h
  · rw [if_neg h]
    exact h2 h
theorem iteNS {c A B : Prop} [Decidable c] (hc : c) (h : B) : if (!decide c) = true then A else B := by
  rw [decide_eq_true hc]
  exact iteF h

/-! ### heaps -/
/-- all that was tracked is as it was -/
def Same (H H' : Hp) : Prop := ∀ b o, H b = some o → H' b = some o
theorem Same.refl (H : Hp) : Same H H := fun _ _ h => h
theorem Same.trans {H H1 H2 : Hp} (a : Same H H1) (b : Same H1 H2) : Same H H2 := fun c o h => b c o (a c o h)
theorem Same.free {H H' : Hp} (e : Same H H') {l : Addr} (h : H' l = Option.none) : H l = Option.none := by
  cases q : H l with
  | none => rfl
  | some o =>
    rw [e l o q] at h
    cases h
theorem Same.seq {K : PySem.W.Frag} {H H' : Hp} {a : Addr} {xs : List V} (e : Same H H') (h : SqL K H a xs) : SqL K H' a xs := by
  rcases h with (h | ⟨o, h⟩) | h
  · exact .inl (.inl (e _ _ h))
  · exact .inl (.inr ⟨o, e _ _ h⟩)
  · exact .inr h

end L2

/-! A LAYER OF DATA over the hand layer: values without addresses (tuples are data), a store of what changes, each rule as a plain function. -/
namespace L3
open PySem PySem.Spec PyProof.Rows L2

/-! ### data, store, outcomes -/
inductive D where
  | non | bl (b : Bool) | int (i : Int) | str (x : Str) | tup (xs : List D) | scr (ns : List Int) | ref (n : Nat)
inductive Ob where
  | lst (xs : List D)
  | dic (kvs : List (Key × D))
  | ins (c : Nat) (fs : List (Str × D))
abbrev Sto := List Ob
abbrev St := L2.St
abbrev Ev := List (Option D)
structure Xn where
  cls : Nat
inductive Out (α : Type) where
  | ok (a : α) (σ : Sto)
  | ex (x : Xn) (σ : Sto)
  | bad
abbrev M (α : Type) := Sto → Out α
def ret {α : Type} (a : α) : M α := fun σ => .ok a σ
def bad {α : Type} : M α := fun _ => .bad
def bnd {α β : Type} (m : M α) (k : α → M β) : M β := fun σ => match m σ with
  | .ok a σ' => k a σ'
  | .ex x σ' => .ex x σ'
  | .bad => .bad
/-- what stands behind a statement -/
inductive Fl where
  | nx (ρ : Ev) | rt (d : D) | bk (ρ : Ev) | ct (ρ : Ev)

/-- the text's table: its written part, the classes' addresses -/
structure Tb where
  K : PySem.W.Frag
  ca : Nat → Addr
def Tb.cv (T : Tb) (x : Xn) : Value := .ref (T.ca x.cls)

/-! ### how data lie in the heap -/
def Scr (K : PySem.W.Frag) (H : Hp) (a : Addr) (ns : List Int) : Prop :=
  (∃ o, H a = some (.frz o (.lst (ns.map V.int)))) ∨
    ∃ (o : Obj) (its : Array Value) (n : Nat), K.lookup a = some o ∧ o.cls = .type "list" ∧ o.dict = none ∧ o.data = .seq its n ∧ its.size ≤ sizeLine ∧ Vals (ns.map V.int) its.toList
theorem Scr.seq {K : PySem.W.Frag} {H : Hp} {a : Addr} {ns : List Int} (h : Scr K H a ns) : SqL K H a (ns.map V.int) := by
  rcases h with ⟨o, h⟩ | h
  · exact .inl (.inr ⟨o, h⟩)
  · exact .inr h
mutual
def Rep (T : Tb) (μ : List Addr) (H : Hp) : D → V → Prop
  | .non, v => v = .non
  | .bl b, v => v = .bl b
  | .int i, v => v = .int i
  | .str x, v => v = .str x
  | .tup ds, v => ∃ p vs, v = .ref p ∧ H p = some (.tup vs) ∧ RepL T μ H ds vs
  | .scr ns, v => ∃ a, v = .ref a ∧ Scr T.K H a ns
  | .ref n, v => ∃ a, v = .ref a ∧ μ[n]? = some a
def RepL (T : Tb) (μ : List Addr) (H : Hp) : List D → List V → Prop
  | [], vs => vs = []
  | d :: ds, vs => ∃ v r, vs = v :: r ∧ Rep T μ H d v ∧ RepL T μ H ds r
end
structure Ext (μ : List Addr) (H : Hp) (μ' : List Addr) (H' : Hp) : Prop where
  pre : ∃ r, μ' = μ ++ r
  tup : ∀ p xs, H p = some (.tup xs) → H' p = some (.tup xs)
  frz : ∀ p o u, H p = some (.frz o u) → H' p = some (.frz o u)
theorem Ext.refl (μ : List Addr) (H : Hp) : Ext μ H μ H := ⟨⟨[], by simp⟩, fun _ _ h => h, fun _ _ _ h => h⟩
theorem Ext.trans {μ μ1 μ2 : List Addr} {H H1 H2 : Hp} (a : Ext μ H μ1 H1) (b : Ext μ1 H1 μ2 H2) : Ext μ H μ2 H2 := by
  obtain ⟨⟨r, rfl⟩, t1, f1⟩ := a
  obtain ⟨⟨r', rfl⟩, t2, f2⟩ := b
  exact ⟨⟨r ++ r', by simp⟩, fun p xs h => t2 p xs (t1 p xs h), fun p o u h => f2 p o u (f1 p o u h)⟩
theorem Ext.get {μ μ' : List Addr} {H H' : Hp} (e : Ext μ H μ' H') {n : Nat} {a : Addr} (h : μ[n]? = some a) : μ'[n]? = some a := by
  obtain ⟨⟨r, rfl⟩, _, _⟩ := e
  rw [List.getElem?_append_left (List.getElem?_eq_some_iff.mp h).1]; exact h
mutual
theorem Rep.mono {T : Tb} {μ μ' : List Addr} {H H' : Hp} (e : Ext μ H μ' H') : ∀ (d : D) (v : V), Rep T μ H d v → Rep T μ' H' d v
  | .non, v, h => by simpa [Rep] using h
  | .bl b, v, h => by simpa [Rep] using h
  | .int i, v, h => by simpa [Rep] using h
  | .str x, v, h => by simpa [Rep] using h
  | .tup ds, v, h => by
    rw [Rep] at h ⊢
    obtain ⟨p, vs, h1, h2, h3⟩ := h
    exact ⟨p, vs, h1, e.tup _ _ h2, RepL.mono e ds vs h3⟩
  | .scr ns, v, h => by
    rw [Rep] at h ⊢
    obtain ⟨a, h1, h2⟩ := h
    refine ⟨a, h1, ?_⟩
    rcases h2 with ⟨o, h2⟩ | h2
    · exact .inl ⟨o, e.frz _ _ _ h2⟩
    · exact .inr h2
  | .ref n, v, h => by
    rw [Rep] at h ⊢
    obtain ⟨a, h1, h2⟩ := h
    exact ⟨a, h1, e.get h2⟩
theorem RepL.mono {T : Tb} {μ μ' : List Addr} {H H' : Hp} (e : Ext μ H μ' H') : ∀ (ds : List D) (vs : List V), RepL T μ H ds vs → RepL T μ' H' ds vs
  | [], vs, h => by simpa [RepL] using h
  | d :: ds, vs, h => by
    rw [RepL] at h ⊢
    obtain ⟨v, r, h1, h2, h3⟩ := h
    exact ⟨v, r, h1, Rep.mono e d v h2, RepL.mono e ds r h3⟩
end
theorem RepL.nil {T : Tb} {μ : List Addr} {H : Hp} : RepL T μ H [] [] := by rw [RepL]
theorem RepL.cons {T : Tb} {μ : List Addr} {H : Hp} {d : D} {v : V} {ds : List D} {vs : List V} (h1 : Rep T μ H d v) (h2 : RepL T μ H ds vs) : RepL T μ H (d :: ds) (v :: vs) := by
  rw [RepL]; exact ⟨v, vs, rfl, h1, h2⟩
theorem RepL.length {T : Tb} {μ : List Addr} {H : Hp} : ∀ {ds : List D} {vs : List V}, RepL T μ H ds vs → ds.length = vs.length
  | [], vs, h => by rw [RepL] at h; subst h; rfl
  | d :: ds, vs, h => by
    rw [RepL] at h
    obtain ⟨v, r, rfl, _, h3⟩ := h
    simp [RepL.length h3]
theorem RepL.get {T : Tb} {μ : List Addr} {H : Hp} : ∀ {ds : List D} {vs : List V} {i : Nat} {d : D}, RepL T μ H ds vs → ds[i]? = some d → ∃ v, vs[i]? = some v ∧ Rep T μ H d v
  | [], vs, i, d, h, e => by simp at e
  | d :: ds, vs, 0, x, h, e => by
    rw [RepL] at h
    obtain ⟨v, r, rfl, h2, h3⟩ := h
    simp at e; subst e
    exact ⟨v, rfl, h2⟩
  | d :: ds, vs, i + 1, x, h, e => by
    rw [RepL] at h
    obtain ⟨v, r, rfl, h2, h3⟩ := h
    simpa using RepL.get (i := i) h3 (by simpa using e)
theorem RepL.append {T : Tb} {μ : List Addr} {H : Hp} : ∀ {ds es : List D} {vs us : List V}, RepL T μ H ds vs → RepL T μ H es us → RepL T μ H (ds ++ es) (vs ++ us)
  | [], es, vs, us, h, h' => by rw [RepL] at h; subst h; simpa using h'
  | d :: ds, es, vs, us, h, h' => by
    rw [RepL] at h
    obtain ⟨v, r, rfl, h2, h3⟩ := h
    exact RepL.cons h2 (RepL.append h3 h')
theorem RepL.set {T : Tb} {μ : List Addr} {H : Hp} {d : D} {v : V} (hd : Rep T μ H d v) : ∀ {ds : List D} {vs : List V} (i : Nat), RepL T μ H ds vs → RepL T μ H (ds.set i d) (vs.set i v)
  | [], vs, i, h => by rw [RepL] at h; subst h; simpa using RepL.nil
  | x :: ds, vs, 0, h => by
    rw [RepL] at h
    obtain ⟨w, r, rfl, h2, h3⟩ := h
    exact RepL.cons hd h3
  | x :: ds, vs, i + 1, h => by
    rw [RepL] at h
    obtain ⟨w, r, rfl, h2, h3⟩ := h
    exact RepL.cons h2 (RepL.set hd i h3)
theorem RepL.drop {T : Tb} {μ : List Addr} {H : Hp} : ∀ {ds : List D} {vs : List V} (n : Nat), RepL T μ H ds vs → RepL T μ H (ds.drop n) (vs.drop n)
  | ds, vs, 0, h => by simpa using h
  | [], vs, n + 1, h => by rw [RepL] at h; subst h; simpa using RepL.nil
  | x :: ds, vs, n + 1, h => by
    rw [RepL] at h
    obtain ⟨w, r, rfl, h2, h3⟩ := h
    simpa using RepL.drop n h3
theorem RepL.take {T : Tb} {μ : List Addr} {H : Hp} : ∀ {ds : List D} {vs : List V} (n : Nat), RepL T μ H ds vs → RepL T μ H (ds.take n) (vs.take n)
  | ds, vs, 0, h => by simpa using RepL.nil
  | [], vs, n + 1, h => by rw [RepL] at h; subst h; simpa using RepL.nil
  | x :: ds, vs, n + 1, h => by
    rw [RepL] at h
    obtain ⟨w, r, rfl, h2, h3⟩ := h
    exact RepL.cons h2 (RepL.take n h3)

/-- the store -/
def RepF (T : Tb) (μ : List Addr) (H : Hp) : List (Str × D) → List (Str × V) → Prop := Paired fun p q => p.1 = q.1 ∧ Rep T μ H p.2 q.2
def RepK (T : Tb) (μ : List Addr) (H : Hp) : List (Key × D) → List (Key × V) → Prop := Paired fun p q => p.1 = q.1 ∧ Rep T μ H p.2 q.2
def ObR (T : Tb) (μ : List Addr) (H : Hp) (a : Addr) : Ob → Prop
  | .lst ds => ∃ vs, H a = some (.lst vs) ∧ RepL T μ H ds vs
  | .dic kvs => ∃ vs, H a = some (.dK vs) ∧ RepK T μ H kvs vs
  | .ins c fs => ∃ dx vs, H a = some (.ins (T.ca c) dx vs) ∧ RepF T μ H fs vs
structure Rel (T : Tb) (μ : List Addr) (H : Hp) (σ : Sto) : Prop where
  len : μ.length = σ.length
  nd : μ.Nodup
  obs : ∀ (n : Nat) (o : Ob), σ[n]? = some o → ∃ a, μ[n]? = some a ∧ ObR T μ H a o
def ERep (T : Tb) (μ : List Addr) (H : Hp) (ρ : Ev) (st : St) : Prop := ρ.length = st.length ∧ ∀ (i : Nat) (d : D), ρ[i]? = some (some d) → ∃ v, st[i]? = some (some v) ∧ Rep T μ H d v
theorem ERep.mono {T : Tb} {μ μ' : List Addr} {H H' : Hp} {ρ : Ev} {st : St} (e : Ext μ H μ' H') (h : ERep T μ H ρ st) : ERep T μ' H' ρ st :=
  ⟨h.1, fun i d q => let ⟨v, h1, h2⟩ := h.2 i d q; ⟨v, h1, Rep.mono e d v h2⟩⟩
theorem ERep.set {T : Tb} {μ : List Addr} {H : Hp} {ρ : Ev} {st : St} {d : D} {v : V} (h : ERep T μ H ρ st) (i : Nat) (r : Rep T μ H d v) : ERep T μ H (ρ.set i (some d)) (st.set i (some v)) := by
  refine ⟨by simpa using h.1, fun j x q => ?_⟩
  rw [List.getElem?_set] at q
  by_cases hj : i = j
  · subst hj
    rw [if_pos rfl] at q
    split at q
    · rename_i hl
      cases q
      exact ⟨v, by rw [List.getElem?_set, if_pos rfl, if_pos (by rw [← h.1]; exact hl)], r⟩
    · cases q
  · rw [if_neg hj] at q
    obtain ⟨w, h1, h2⟩ := h.2 j x q
    exact ⟨w, by rw [List.getElem?_set, if_neg hj]; exact h1, h2⟩

/-! ### what is wanted behind an outcome -/
def Post {α γ : Type} (T : Tb) (E : XK) (R : List Addr → Hp → α → γ → Prop) (μ : List Addr) (H : Hp) (o : Out α) (Q : γ → Hp → Prop) : Prop := match o with
  | .ok a σ => ∀ μ' g H', Ext μ H μ' H' → Rel T μ' H' σ → R μ' H' a g → Q g H'
  | .ex x σ => ∀ μ' H', Ext μ H μ' H' → Rel T μ' H' σ → E (T.cv x) none H'
  | .bad => False
theorem Post.mono {α γ : Type} {T : Tb} {E : XK} {R : List Addr → Hp → α → γ → Prop} {μ μ1 : List Addr} {H H1 : Hp} {o : Out α} {Q : γ → Hp → Prop} (e : Ext μ H μ1 H1) (h : Post T E R μ H o Q) : Post T E R μ1 H1 o Q := by
  cases o with
  | ok a σ => exact fun μ' g H' e' r q => h μ' g H' (e.trans e') r q
  | ex x σ => exact fun μ' H' e' r => h μ' H' (e.trans e') r
  | bad => exact h
theorem Post.imp {α γ δ : Type} {T : Tb} {E : XK} {R : List Addr → Hp → α → γ → Prop} {μ : List Addr} {H : Hp} {o : Out α} {Q Q' : γ → Hp → Prop} (h : Post T E R μ H o Q) (k : ∀ g H', Q g H' → Q' g H') : Post T E R μ H o Q' := by
  cases o with
  | ok a σ => exact fun μ' g H' e' r q => k _ _ (h μ' g H' e' r q)
  | ex x σ => exact h
  | bad => exact h
/-- a step, then the rest -/
theorem Post.bind {α β γ δ : Type} {T : Tb} {E : XK} {R : List Addr → Hp → α → γ → Prop} {R' : List Addr → Hp → β → δ → Prop} {μ : List Addr} {H : Hp} {m : M α} {k : α → M β} {σ : Sto} {Q : δ → Hp → Prop} {Q1 : γ → Hp → Prop}
    (h : Post T E R' μ H (bnd m k σ) Q) (f : ∀ a σ1 μ1 g H1, m σ = .ok a σ1 → Ext μ H μ1 H1 → Rel T μ1 H1 σ1 → R μ1 H1 a g → Post T E R' μ1 H1 (k a σ1) Q → Q1 g H1) : Post T E R μ H (m σ) Q1 := by
  unfold bnd at h
  cases e : m σ with
  | ok a σ1 =>
    rw [e] at h
    exact fun μ' g H' e' r q => f a σ1 μ' g H' e e' r q (h.mono e')
  | ex x σ1 => rw [e] at h; exact h
  | bad => rw [e] at h; exact h

/-! ### the readings -/
section
variable (T : Tb) (E : XK)
def tF (f : Ev → M D) : TE := fun st H Q => ∃ μ ρ σ, ERep T μ H ρ st ∧ Rel T μ H σ ∧ Post T E (Rep T) μ H (f ρ σ) Q
def RBool : List Addr → Hp → Bool → Bool → Prop := fun _ _ a b => b = a
def tT (f : Ev → M Bool) : TT := fun st H Q => ∃ μ ρ σ, ERep T μ H ρ st ∧ Rel T μ H σ ∧ Post T E RBool μ H (f ρ σ) Q
def tL (f : Ev → M (List D)) : TA := fun st H Q => ∃ μ ρ σ, ERep T μ H ρ st ∧ Rel T μ H σ ∧ Post T E (RepL T) μ H (f ρ σ) Q
/-- the ends of a statement -/
inductive Gl2 where
  | nx (st : St) | rt (v : V) | bk (st : St) | ct (st : St)
def RFl (T : Tb) (μ : List Addr) (H : Hp) : Fl → Gl2 → Prop
  | .nx ρ, .nx st => ERep T μ H ρ st
  | .rt d, .rt v => Rep T μ H d v
  | .bk ρ, .bk st => ERep T μ H ρ st
  | .ct ρ, .ct st => ERep T μ H ρ st
  | _, _ => False
def EndQ (D : Ends) : Gl2 → Hp → Prop
  | .nx st, H => D.nx st H
  | .rt v, H => D.rt v H
  | .bk st, H => D.bk st H
  | .ct st, H => D.ct st H
def tS (g : Ev → M Fl) : TS := fun D st H => ∃ μ ρ σ, ERep T μ H ρ st ∧ Rel T μ H σ ∧ Post T E (RFl T) μ H (g ρ σ) (EndQ D)
end
abbrev FE (T : Tb) (E : XK) (X : Cx) (e : Expr) (f : Ev → M D) : Prop := PE X e (tF T E f)
abbrev FT (T : Tb) (E : XK) (X : Cx) (e : Expr) (f : Ev → M Bool) : Prop := PT X e (tT T E f)
abbrev FW (T : Tb) (E : XK) (X : Cx) (e : Expr) (f : Ev → M Bool) : Prop := PW X e (tT T E f)
abbrev FA (T : Tb) (E : XK) (X : Cx) (es : List Expr) (f : Ev → M (List D)) : Prop := PA X es (tL T E f)
abbrev FS (T : Tb) (E : XK) (X : Cx) (st : Stmt) (g : Ev → M Fl) : Prop := PS X st (tS T E g)
abbrev FSs (T : Tb) (E : XK) (X : Cx) (st : List Stmt) (g : Ev → M Fl) : Prop := PSs X st (tS T E g)
end L3

namespace L3
open PySem PySem.Spec PyProof.Rows L2

def cap : Nat := 1000
theorem cap_le {n : Nat} (h : n ≤ cap) : n ≤ sizeLine := Nat.le_of_lt (small1000 h)
theorem cap_lt {n : Nat} (h : n < cap) : n < sizeLine := small1000 (Nat.le_of_lt h)

theorem nodup_at {α : Type} {l : List α} (h : l.Nodup) {i j : Nat} {a : α} (hi : l[i]? = some a) (hj : l[j]? = some a) : i = j := by
  obtain ⟨q1, q2⟩ := List.getElem?_eq_some_iff.mp hi
  obtain ⟨q3, q4⟩ := List.getElem?_eq_some_iff.mp hj
  have hp := List.pairwise_iff_getElem.mp h
  rcases Nat.lt_trichotomy i j with z | z | z
  · exact absurd (q2.trans q4.symm) (hp i j q1 q3 z)
  · exact z
  · exact absurd (q4.trans q2.symm) (hp j i q3 q1 z)
/-! ### the store keeps -/
section
variable {T : Tb} {μ μ' : List Addr} {H H' : Hp} {σ : Sto}
theorem paired_mono {α : Type} (e : Ext μ H μ' H') {xs : List (α × D)} {ys : List (α × V)} (h : Paired (fun (p : α × D) (q : α × V) => p.1 = q.1 ∧ Rep T μ H p.2 q.2) xs ys) :
    Paired (fun (p : α × D) (q : α × V) => p.1 = q.1 ∧ Rep T μ' H' p.2 q.2) xs ys := L2.Paired.mapP h fun p q z => ⟨z.1, Rep.mono e _ _ z.2⟩
theorem ObR.mono (e : Ext μ H μ' H') {a : Addr} (ha : H' a = H a) : ∀ {o : Ob}, ObR T μ H a o → ObR T μ' H' a o
  | .lst ds, ⟨vs, h, r⟩ => ⟨vs, ha.trans h, RepL.mono e _ _ r⟩
  | .dic kvs, ⟨vs, h, r⟩ => ⟨vs, ha.trans h, paired_mono e r⟩
  | .ins c fs, ⟨dx, vs, h, r⟩ => ⟨dx, vs, ha.trans h, paired_mono e r⟩
theorem ObR.some {a : Addr} : ∀ {o : Ob}, ObR T μ H a o → ∃ u, H a = Option.some u ∧ (∀ xs, u ≠ .tup xs) ∧ (∀ ob w, u ≠ .frz ob w)
  | .lst ds, ⟨vs, h, r⟩ => ⟨_, h, (fun _ z => by cases z), (fun _ _ z => by cases z)⟩
  | .dic kvs, ⟨vs, h, r⟩ => ⟨_, h, (fun _ z => by cases z), (fun _ _ z => by cases z)⟩
  | .ins c fs, ⟨dx, vs, h, r⟩ => ⟨_, h, (fun _ z => by cases z), (fun _ _ z => by cases z)⟩
theorem Rel.keep (r : Rel T μ H σ) (e : Ext μ H μ H') (k : ∀ a ∈ μ, H' a = H a) : Rel T μ H' σ :=
  ⟨r.len, r.nd, fun n o h => let ⟨a, h1, h2⟩ := r.obs n o h; ⟨a, h1, h2.mono e (k a (List.mem_of_getElem? h1))⟩⟩
theorem Rel.mem (r : Rel T μ H σ) {a : Addr} (h : a ∈ μ) : ∃ u, H a = some u ∧ (∀ xs, u ≠ .tup xs) ∧ (∀ ob w, u ≠ .frz ob w) := by
  obtain ⟨n, hn⟩ := List.getElem?_of_mem h
  have hl : n < σ.length := by rw [← r.len]; exact (List.getElem?_eq_some_iff.mp hn).1
  obtain ⟨a', h1, h2⟩ := r.obs n σ[n] (by simp [hl])
  rw [hn] at h1; cases h1
  exact h2.some
/-- a new thing that is not of the store -/
theorem ext_new {p : Addr} {o : HO} (hp : H p = none) : Ext μ H μ (upd H p o) :=
  ⟨⟨[], by simp⟩, fun q xs h => by rw [upd_ne (ne_of_none h hp)]; exact h, fun q ob u h => by rw [upd_ne (ne_of_none h hp)]; exact h⟩
theorem Rel.fresh (r : Rel T μ H σ) {p : Addr} {o : HO} (hp : H p = none) : Rel T μ (upd H p o) σ :=
  r.keep (ext_new hp) fun a ha => by obtain ⟨u, h, _⟩ := r.mem ha; rw [upd_ne (ne_of_none h hp)]
/-- a new thing of the store -/
theorem ext_push {p : Addr} {o : HO} (hp : H p = none) : Ext μ H (μ ++ [p]) (upd H p o) :=
  ⟨⟨[p], rfl⟩, (ext_new (μ := μ) hp).tup, (ext_new (μ := μ) hp).frz⟩
theorem Rel.push (r : Rel T μ H σ) {p : Addr} {o : HO} {ob : Ob} (hp : H p = none) (ho : ObR T (μ ++ [p]) (upd H p o) p ob) : Rel T (μ ++ [p]) (upd H p o) (σ ++ [ob]) := by
  refine ⟨by simp [r.len], ?_, fun n x h => ?_⟩
  · rw [List.nodup_append]
    refine ⟨r.nd, by simp, fun a ha b hb e => ?_⟩
    have eb : b = p := by simpa using hb
    subst eb; subst e
    obtain ⟨u, h, _⟩ := r.mem ha
    rw [hp] at h; cases h
  · by_cases hn : n < σ.length
    · rw [List.getElem?_append_left hn] at h
      obtain ⟨a, h1, h2⟩ := r.obs n x h
      obtain ⟨u, hu, _⟩ := h2.some
      exact ⟨a, by rw [List.getElem?_append_left (by rw [r.len]; exact hn)]; exact h1, h2.mono (ext_push hp) (upd_ne (ne_of_none hu hp))⟩
    · rw [List.getElem?_append_right (by omega)] at h
      have e0 : n - σ.length = 0 := by
        have := (List.getElem?_eq_some_iff.mp h).1
        simp at this; omega
      rw [e0] at h
      simp at h; subst h
      have en : n = μ.length := by rw [r.len]; omega
      subst en
      exact ⟨p, by simp, ho⟩
theorem rep_push {p : Addr} {o : HO} (r : Rel T μ H σ) : Rep T (μ ++ [p]) (upd H p o) (.ref σ.length) (.ref p) := by
  rw [Rep]; exact ⟨p, rfl, by rw [← r.len]; simp⟩
/-- a thing of the store is written -/
theorem ext_write {a : Addr} {u o : HO} (ha : H a = some u) (h1 : ∀ xs, u ≠ .tup xs) (h2 : ∀ ob w, u ≠ .frz ob w) : Ext μ H μ (upd H a o) :=
  ⟨⟨[], by simp⟩, fun q xs h => by rw [upd_ne (ne_of h ha (fun z => h1 xs z.symm))]; exact h, fun q ob w h => by rw [upd_ne (ne_of h ha (fun z => h2 ob w z.symm))]; exact h⟩
theorem Rel.write (r : Rel T μ H σ) {n : Nat} {a : Addr} {o : HO} {ob : Ob} (hn : μ[n]? = some a) (ho : ObR T μ (upd H a o) a ob) : Ext μ H μ (upd H a o) ∧ Rel T μ (upd H a o) (σ.set n ob) := by
  obtain ⟨u, hu, h1, h2⟩ := r.mem (List.mem_of_getElem? hn)
  have e : Ext μ H μ (upd H a o) := ext_write hu h1 h2
  refine ⟨e, by simp [r.len], r.nd, fun m x h => ?_⟩
  rw [List.getElem?_set] at h
  by_cases hm : n = m
  · subst hm
    rw [if_pos rfl] at h
    split at h
    · cases h
      exact ⟨a, hn, ho⟩
    · cases h
  · rw [if_neg hm] at h
    obtain ⟨b, h3, h4⟩ := r.obs m x h
    refine ⟨b, h3, h4.mono e (upd_ne fun z => hm ?_)⟩
    subst z
    exact nodup_at r.nd hn h3
theorem Rel.at (r : Rel T μ H σ) {n : Nat} {v : V} {o : Ob} (h : Rep T μ H (.ref n) v) (e : σ[n]? = some o) : ∃ a, v = .ref a ∧ μ[n]? = some a ∧ ObR T μ H a o := by
  rw [Rep] at h
  obtain ⟨a, rfl, ha⟩ := h
  obtain ⟨a', h1, h2⟩ := r.obs n o e
  rw [ha] at h1; cases h1
  exact ⟨a, rfl, ha, h2⟩
end

/-! ### expressions -/
def eVar (i : Nat) : Ev → M D := fun ρ σ => match ρ[i]? with
  | some (some d) => .ok d σ
  | _ => .bad
def eC (d : D) : Ev → M D := fun _ => ret d
def eBin (o : D → D → M D) (a b : Ev → M D) : Ev → M D := fun ρ => bnd (a ρ) fun x => bnd (b ρ) fun y => o x y
def eUn (o : D → M D) (a : Ev → M D) : Ev → M D := fun ρ => bnd (a ρ) fun x => o x
def tst (d : D) : M Bool := match d with
  | .bl b => ret b
  | _ => bad
def eT (f : Ev → M D) : Ev → M Bool := fun ρ => bnd (f ρ) tst
def bAnd (a b : Ev → M Bool) : Ev → M Bool := fun ρ => bnd (a ρ) fun c => if c = true then b ρ else ret false
def bOr (a b : Ev → M Bool) : Ev → M Bool := fun ρ => bnd (a ρ) fun c => if c = true then ret true else b ρ
def bNot (a : Ev → M Bool) : Ev → M Bool := fun ρ => bnd (a ρ) fun c => ret (!c)
def eAnd (a b : Ev → M D) : Ev → M D := fun ρ => bnd (a ρ) fun d => bnd (tst d) fun c => if c = true then b ρ else ret (.bl false)
def eOr (a b : Ev → M D) : Ev → M D := fun ρ => bnd (a ρ) fun d => bnd (tst d) fun c => if c = true then ret (.bl true) else b ρ
def eNot (a : Ev → M D) : Ev → M D := fun ρ => bnd (a ρ) fun d => bnd (tst d) fun c => ret (.bl (!c))
def eIf (t : Ev → M Bool) (a b : Ev → M D) : Ev → M D := fun ρ => bnd (t ρ) fun c => if c = true then a ρ else b ρ
def aNil : Ev → M (List D) := fun _ => ret []
def aCons (e : Ev → M D) (r : Ev → M (List D)) : Ev → M (List D) := fun ρ => bnd (e ρ) fun x => bnd (r ρ) fun xs => ret (x :: xs)
def eTup (a : Ev → M (List D)) : Ev → M D := fun ρ => bnd (a ρ) fun ds => if ds.length ≤ cap then ret (.tup ds) else bad
def mkLst (ds : List D) : M D := fun σ => .ok (.ref σ.length) (σ ++ [.lst ds])
def eLst (a : Ev → M (List D)) : Ev → M D := fun ρ => bnd (a ρ) fun ds => if ds.length ≤ cap then mkLst ds else bad

def SndOp (T : Tb) (E : XK) (r : R2) (o : D → D → M D) : Prop := ∀ μ H σ x y v u Q, Rel T μ H σ → Rep T μ H x v → Rep T μ H y u → Post T E (Rep T) μ H (o x y σ) Q → r v u H Q
def SndUn (T : Tb) (E : XK) (r : V → Hp → VK → Prop) (o : D → M D) : Prop := ∀ μ H σ x v Q, Rel T μ H σ → Rep T μ H x v → Post T E (Rep T) μ H (o x σ) Q → r v H Q
def SndCall (T : Tb) (E : XK) (r : List V → Hp → VK → Prop) (o : List D → M D) : Prop := ∀ μ H σ xs vs Q, Rel T μ H σ → RepL T μ H xs vs → Post T E (Rep T) μ H (o xs σ) Q → r vs H Q

section
variable {T : Tb} {E : XK} {X : Cx} {a b c : Expr} {fa fb : Ev → M D} {ta tb : Ev → M Bool} {pos : Pos}
theorem Post.here {α γ : Type} {R : List Addr → Hp → α → γ → Prop} {μ : List Addr} {H : Hp} {d : α} {σ : Sto} {g : γ} {Q : γ → Hp → Prop} (h : Post T E R μ H (.ok d σ) Q) (r : Rel T μ H σ) (p : R μ H d g) : Q g H := h μ g H (Ext.refl _ _) r p
theorem fe_var (i : Nat) {x : Str} (hN : X.N[i]? = some x := by rfl) (hv : Vis X.env.scope x := by first | exact Or.inl rfl | exact Or.inr (Or.inl rfl) | exact Or.inr (Or.inr rfl)) (hd : (x == ("__debug__" : Str)) = false := by decide)
    (hcd : (x == ("__classdict__" : Str)) = false := by decide) : FE T E X (.Name x pos) (eVar i) := by
  intro pins s st H Q I h
  obtain ⟨μ, ρ, σ, he, hr, hp⟩ := h
  refine pe_var hN hv hd hcd pins s st H Q I ?_
  unfold eVar at hp
  cases e : ρ[i]? with
  | none => rw [e] at hp; exact hp.elim
  | some o =>
    cases o with
    | none => rw [e] at hp; exact hp.elim
    | some d =>
      rw [e] at hp
      obtain ⟨v, h1, h2⟩ := he.2 i d e
      exact ⟨v, h1, hp.here hr h2⟩
theorem fe_const {e : Expr} {v : V} {d : D} (h : PE X e (tC v)) (r : ∀ μ H, Rep T μ H d v) : FE T E X e (eC d) := by
  intro pins s st H Q I hq
  obtain ⟨μ, ρ, σ, he, hr, hp⟩ := hq
  exact h pins s st H Q I (Post.here hp hr (r _ _))
theorem fe_int {i : Int} {j} : FE T E X (.Constant (.int i) j pos) (eC (.int i)) := fe_const pe_int fun _ _ => by rw [Rep]
theorem fe_bl {i : Bool} {j} : FE T E X (.Constant (.bool i) j pos) (eC (.bl i)) := fe_const pe_bl fun _ _ => by rw [Rep]
theorem fe_non {j} : FE T E X (.Constant .none j pos) (eC .non) := fe_const pe_non fun _ _ => by rw [Rep]
theorem fe_str {i : Str} {j} : FE T E X (.Constant (.str i) j pos) (eC (.str i)) := fe_const pe_str fun _ _ => by rw [Rep]
theorem fe_globI {x : Str} {u : Value} {i : Int} (hg : Gl X x) (hm : X.mg x = some u) (r : RelV (.int i) u) (hd : (x == ("__debug__" : Str)) = false := by decide) : FE T E X (.Name x pos) (eC (.int i)) := fe_const (pe_glob hg hm r hd) fun _ _ => by rw [Rep]
/-- two expressions, then an operation -/
theorem two {r : R2} {o : D → D → M D} (hs : SndOp T E r o) {st : St} {H : Hp} {Q : VK} (h : tF T E (eBin o fa fb) st H Q) : tOp r (tF T E fa) (tF T E fb) st H Q := by
  obtain ⟨μ, ρ, σ, he, hr, hp⟩ := h
  exact ⟨μ, ρ, σ, he, hr, hp.bind fun x σ1 μ1 v H1 _ e1 r1 p1 q1 => ⟨μ1, ρ, σ1, he.mono e1, r1, q1.bind fun y σ2 μ2 u H2 _ e2 r2 p2 q2 => hs μ2 H2 σ2 x y v u Q r2 (Rep.mono e2 _ _ p1) p2 q2⟩⟩
theorem fe_op {op : Operator} {r : R2} {o : D → D → M D} (ho : OpR X (binaryOp op) r) (hs : SndOp T E r o) (ha : FE T E X a fa) (hb : FE T E X b fb) : FE T E X (.BinOp a op b pos) (eBin o fa fb) :=
  fun pins s st H Q I h => pe_op ho ha hb pins s st H Q I (two hs h)
theorem fe_cmp {op : CmpOp} {r : R2} {o : D → D → M D} (ho : OpR X (compareOp op) r) (hs : SndOp T E r o) (ha : FE T E X a fa) (hb : FE T E X b fb) (hm : behindInMarks op b = false) : FE T E X (.Compare a [op] [b] pos) (eBin o fa fb) :=
  fun pins s st H Q I h => pe_cmpR ho ha hb hm pins s st H Q I (two hs h)
theorem fe_ix {r : R2} {o : D → D → M D} (ho : IxR X r) (hs : SndOp T E r o) (ha : FE T E X a fa) (hb : FE T E X b fb) (hp : PlainIx b) : FE T E X (.Subscript a b pos) (eBin o fa fb) :=
  fun pins s st H Q I h => pe_ix ho ha hb hp pins s st H Q I (two hs h)
theorem fe_un {op : UnaryOp} {r : V → Hp → VK → Prop} {o : D → M D} (ho : UnR X (unaryOp op) r) (hs : SndUn T E r o) (ha : FE T E X a fa) : FE T E X (.UnaryOp op a pos) (eUn o fa) := by
  intro pins s st H Q I h
  refine pe_un ho ha pins s st H Q I ?_
  obtain ⟨μ, ρ, σ, he, hr, hp⟩ := h
  exact ⟨μ, ρ, σ, he, hr, hp.bind fun x σ1 μ1 v H1 _ e1 r1 p1 q1 => hs μ1 H1 σ1 x v Q r1 p1 q1⟩
/-- tests -/
theorem tst_bl {d : D} {σ : Sto} {μ : List Addr} {H : Hp} {v : V} {β δ : Type} {R' : List Addr → Hp → β → δ → Prop} {k : Bool → M β} {Q : δ → Hp → Prop} (r : Rep T μ H d v) (h : Post T E R' μ H (bnd (tst d) k σ) Q) : ∃ c, d = .bl c ∧ v = .bl c ∧ Post T E R' μ H (k c σ) Q := by
  cases d with
  | bl c => rw [Rep] at r; exact ⟨c, rfl, r, h⟩
  | _ => exact h.elim
theorem tst_bl1 {d : D} {σ : Sto} {μ : List Addr} {H : Hp} {v : V} {Q : Bool → Hp → Prop} (r : Rep T μ H d v) (h : Post T E RBool μ H (tst d σ) Q) : ∃ c, v = .bl c ∧ Post T E RBool μ H (.ok c σ) Q := by
  cases d with
  | bl c => rw [Rep] at r; exact ⟨c, r, h⟩
  | _ => exact h.elim
theorem ft_cmp {op : CmpOp} {r : R2} {o : D → D → M D} (ho : OpR X (compareOp op) r) (hs : SndOp T E r o) (ha : FE T E X a fa) (hb : FE T E X b fb) (hm : behindInMarks op b = false) : FT T E X (.Compare a [op] [b] pos) (eT (eBin o fa fb)) := by
  intro pins s st H Q I h
  refine pt_cmpR ho ha hb hm pins s st H Q I ?_
  refine two (o := o) hs ?_
  obtain ⟨μ, ρ, σ, he, hr, hp⟩ := h
  refine ⟨μ, ρ, σ, he, hr, hp.bind fun d σ1 μ1 v H1 _ e1 r1 p1 q1 => ?_⟩
  obtain ⟨k, ev, q⟩ := tst_bl1 p1 q1
  exact ⟨k, ev, q.here r1 rfl⟩
theorem ft_val {e : Expr} {f : Ev → M D} (h : FE T E X e f) (he : ∀ whole, isTrue e X.env whole = (do let v ← whole; standAt e.pos; holding [v] (truthy v)) := by intro _; rfl) : FT T E X e (eT f) := by
  intro pins s st H Q I hw
  refine pt_val h he pins s st H Q I ?_
  obtain ⟨μ, ρ, σ, hE, hr, hp⟩ := hw
  refine ⟨μ, ρ, σ, hE, hr, hp.bind fun d σ1 μ1 v H1 _ e1 r1 p1 q1 => ?_⟩
  obtain ⟨k, ev, q⟩ := tst_bl1 p1 q1
  exact ⟨k, ev, q.here r1 rfl⟩
theorem ft_not (h : FT T E X a ta) : FT T E X (.UnaryOp .Not a pos) (bNot ta) := by
  intro pins s st H Q I hw
  refine pt_not h pins s st H Q I ?_
  obtain ⟨μ, ρ, σ, hE, hr, hp⟩ := hw
  exact ⟨μ, ρ, σ, hE, hr, hp.bind fun c σ1 μ1 v H1 _ e1 r1 p1 q1 => by cases p1; exact q1.here r1 rfl⟩
variable {rest : List Expr}
theorem fw_and1 (h : FT T E X a ta) : FW T E X (.BoolOp .And [a] pos) ta := pw_and1 h
theorem fw_or1 (h : FT T E X a ta) : FW T E X (.BoolOp .Or [a] pos) ta := pw_or1 h
theorem fw_and (h : FT T E X a ta) (hb : FW T E X (.BoolOp .And (b :: rest) pos) tb) : FW T E X (.BoolOp .And (a :: b :: rest) pos) (bAnd ta tb) := by
  intro wh pins s st H Q I hw
  refine pw_and h hb wh pins s st H Q I ?_
  obtain ⟨μ, ρ, σ, hE, hr, hp⟩ := hw
  refine ⟨μ, ρ, σ, hE, hr, hp.bind fun c σ1 μ1 v H1 _ e1 r1 p1 q1 => ?_⟩
  cases p1
  cases c with
  | true => rw [if_pos rfl] at q1 ⊢; exact ⟨μ1, ρ, σ1, hE.mono e1, r1, q1⟩
  | false => rw [if_neg Bool.false_ne_true] at q1 ⊢; exact q1.here r1 rfl
theorem fw_or (h : FT T E X a ta) (hb : FW T E X (.BoolOp .Or (b :: rest) pos) tb) : FW T E X (.BoolOp .Or (a :: b :: rest) pos) (bOr ta tb) := by
  intro wh pins s st H Q I hw
  refine pw_or h hb wh pins s st H Q I ?_
  obtain ⟨μ, ρ, σ, hE, hr, hp⟩ := hw
  refine ⟨μ, ρ, σ, hE, hr, hp.bind fun c σ1 μ1 v H1 _ e1 r1 p1 q1 => ?_⟩
  cases p1
  cases c with
  | true => rw [if_pos rfl] at q1 ⊢; exact q1.here r1 rfl
  | false => rw [if_neg Bool.false_ne_true] at q1 ⊢; exact ⟨μ1, ρ, σ1, hE.mono e1, r1, q1⟩
theorem fe_one {op} (h : FE T E X a fa) : FE T E X (.BoolOp op [a] pos) fa := pe_one h
theorem fe_and (h : FE T E X a fa) (hb : FE T E X (.BoolOp .And (b :: rest) pos) fb) : FE T E X (.BoolOp .And (a :: b :: rest) pos) (eAnd fa fb) := by
  intro pins s st H Q I hw
  refine pe_and h hb pins s st H Q I ?_
  obtain ⟨μ, ρ, σ, hE, hr, hp⟩ := hw
  refine ⟨μ, ρ, σ, hE, hr, hp.bind fun d σ1 μ1 v H1 _ e1 r1 p1 q1 => ?_⟩
  obtain ⟨c, rfl, ev, q⟩ := tst_bl p1 q1
  refine ⟨c, ev, ?_⟩
  cases c with
  | true => rw [if_pos rfl] at q ⊢; exact ⟨μ1, ρ, σ1, hE.mono e1, r1, q⟩
  | false => rw [if_neg Bool.false_ne_true] at q ⊢; exact Post.here q r1 (by rw [Rep])
theorem fe_or (h : FE T E X a fa) (hb : FE T E X (.BoolOp .Or (b :: rest) pos) fb) : FE T E X (.BoolOp .Or (a :: b :: rest) pos) (eOr fa fb) := by
  intro pins s st H Q I hw
  refine pe_or h hb pins s st H Q I ?_
  obtain ⟨μ, ρ, σ, hE, hr, hp⟩ := hw
  refine ⟨μ, ρ, σ, hE, hr, hp.bind fun d σ1 μ1 v H1 _ e1 r1 p1 q1 => ?_⟩
  obtain ⟨c, rfl, ev, q⟩ := tst_bl p1 q1
  refine ⟨c, ev, ?_⟩
  cases c with
  | true => rw [if_pos rfl] at q ⊢; exact Post.here q r1 (by rw [Rep])
  | false => rw [if_neg Bool.false_ne_true] at q ⊢; exact ⟨μ1, ρ, σ1, hE.mono e1, r1, q⟩
theorem fe_not (h : FE T E X a fa) : FE T E X (.UnaryOp .Not a pos) (eNot fa) := by
  intro pins s st H Q I hw
  refine pe_not h pins s st H Q I ?_
  obtain ⟨μ, ρ, σ, hE, hr, hp⟩ := hw
  refine ⟨μ, ρ, σ, hE, hr, hp.bind fun d σ1 μ1 v H1 _ e1 r1 p1 q1 => ?_⟩
  obtain ⟨c, rfl, ev, q⟩ := tst_bl p1 q1
  exact ⟨c, ev, Post.here q r1 (by rw [Rep])⟩
theorem fe_ifExp (hc : FT T E X c ta) (ha : FE T E X a fa) (hb : FE T E X b fb) : FE T E X (.IfExp c a b pos) (eIf ta fa fb) := by
  intro pins s st H Q I hw
  refine pe_ifExp hc ha hb pins s st H Q I ?_
  obtain ⟨μ, ρ, σ, hE, hr, hp⟩ := hw
  refine ⟨μ, ρ, σ, hE, hr, hp.bind fun d σ1 μ1 v H1 _ e1 r1 p1 q1 => ?_⟩
  cases p1
  cases d with
  | true => rw [if_pos rfl] at q1 ⊢; exact ⟨μ1, ρ, σ1, hE.mono e1, r1, q1⟩
  | false => rw [if_neg Bool.false_ne_true] at q1 ⊢; exact ⟨μ1, ρ, σ1, hE.mono e1, r1, q1⟩
variable {e : Expr} {es : List Expr} {fe : Ev → M D} {fs : Ev → M (List D)}
theorem fa_nil : FA T E X [] aNil := by
  intro pos pins s st H Q I hw
  refine pa_nil pos pins s st H Q I ?_
  obtain ⟨μ, ρ, σ, hE, hr, hp⟩ := hw
  exact Post.here hp hr RepL.nil
theorem fa_cons (ha : FE T E X e fe) (hr : FA T E X es fs) (hs : starEach (e :: es) X.env = (false, eval e X.env) :: starEach es X.env := by rfl) : FA T E X (e :: es) (aCons fe fs) := by
  intro pos pins s st H Q I hw
  refine pa_cons ha hr hs pos pins s st H Q I ?_
  obtain ⟨μ, ρ, σ, hE, hr, hp⟩ := hw
  exact ⟨μ, ρ, σ, hE, hr, hp.bind fun d σ1 μ1 v H1 _ e1 r1 p1 q1 => ⟨μ1, ρ, σ1, hE.mono e1, r1, q1.bind fun ds σ2 μ2 vs H2 _ e2 r2 p2 q2 => Post.here q2 r2 (RepL.cons (Rep.mono e2 _ _ p1) p2)⟩⟩
theorem new_tup {μ : List Addr} {H : Hp} {σ : Sto} {ds : List D} {vs : List V} {Q : VK} {p : Addr} (h : Post T E (Rep T) μ H (.ok (.tup ds) σ) Q) (r : Rel T μ H σ) (q : RepL T μ H ds vs) (hp : H p = none) : Q (.ref p) (upd H p (.tup vs)) :=
  h μ (.ref p) _ (ext_new hp) (r.fresh hp) (by rw [Rep]; exact ⟨p, vs, rfl, upd_same, RepL.mono (ext_new hp) _ _ q⟩)
theorem new_lst {μ : List Addr} {H : Hp} {σ : Sto} {ds : List D} {vs : List V} {Q : VK} {p : Addr} (h : Post T E (Rep T) μ H (mkLst ds σ) Q) (r : Rel T μ H σ) (q : RepL T μ H ds vs) (hp : H p = none) : Q (.ref p) (upd H p (.lst vs)) :=
  h (μ ++ [p]) (.ref p) _ (ext_push hp) (r.push hp ⟨vs, upd_same, RepL.mono (ext_push hp) _ _ q⟩) (rep_push r)
theorem fe_tup {x1} (h : FA T E X es fs) : FE T E X (.Tuple es x1 pos) (eTup fs) := by
  intro pins s st H Q I hw
  refine pe_tup h pins s st H Q I ?_
  obtain ⟨μ, ρ, σ, hE, hr, hp⟩ := hw
  refine ⟨μ, ρ, σ, hE, hr, hp.bind fun ds σ1 μ1 vs H1 _ e1 r1 p1 q1 => ?_⟩
  by_cases hl : ds.length ≤ cap
  · rw [if_pos hl] at q1
    exact ⟨by rw [← p1.length]; exact cap_le hl, fun p hp => new_tup q1 r1 p1 hp⟩
  · rw [if_neg hl] at q1; exact q1.elim
theorem fe_lst (h : FA T E X es fs) : FE T E X (.List es pos) (eLst fs) := by
  intro pins s st H Q I hw
  refine pe_lst h pins s st H Q I ?_
  obtain ⟨μ, ρ, σ, hE, hr, hp⟩ := hw
  refine ⟨μ, ρ, σ, hE, hr, hp.bind fun ds σ1 μ1 vs H1 _ e1 r1 p1 q1 => ?_⟩
  by_cases hl : ds.length ≤ cap
  · rw [if_pos hl] at q1
    exact ⟨by rw [← p1.length]; exact cap_le hl, fun p hp => new_lst q1 r1 p1 hp⟩
  · rw [if_neg hl] at q1; exact q1.elim
end
end L3

namespace L3
open PySem PySem.Spec PyProof.Rows L2

/-! ### ints -/
def oI (g : Int → Int → Int) : D → D → M D
  | .int i, .int j => ret (.int (g i j))
  | _, _ => bad
def oB (g : Int → Int → Bool) : D → D → M D
  | .int i, .int j => ret (.bl (g i j))
  | _, _ => bad
def oIC (C : Int → Int → Bool) (g : Int → Int → Int) : D → D → M D
  | .int i, .int j => if C i j = true then ret (.int (g i j)) else bad
  | _, _ => bad
def cMul (i j : Int) : Bool := (decide (-(2 ^ 64) < i) && decide (i < 2 ^ 64)) || (decide (-(2 ^ 64) < j) && decide (j < 2 ^ 64))
def cDiv (_ j : Int) : Bool := decide (0 < j) && decide (j < 1073741824)
def cMod (_ j : Int) : Bool := decide (0 < j)
def cPow (i j : Int) : Bool := decide (0 ≤ j) && decide (j ≤ 1000000) && decide (i.natAbs < 2 ^ 64)
def cShr (_ j : Int) : Bool := decide (0 ≤ j)
abbrev oSub := oI (fun i j => i - j)
abbrev oMul := oIC cMul (fun i j => i * j)
abbrev oDiv := oIC cDiv (fun i j => i / j)
abbrev oMod := oIC cMod (fun i j => i % j)
abbrev oPow := oIC cPow (fun i j => i ^ j.toNat)
abbrev oShr := oIC cShr (fun i j => i / 2 ^ j.toNat)
abbrev oBand := oI (fun i j => Builtin.bitAnd i j)
abbrev oLt := oB (fun i j => decide (i < j))
abbrev oLe := oB (fun i j => decide (i ≤ j))
abbrev oGt := oB (fun i j => decide (j < i))
abbrev oGe := oB (fun i j => decide (j ≤ i))
def oNeg : D → M D
  | .int i => ret (.int (-i))
  | _ => bad

/-- an operation read by its data -/
def rD (T : Tb) (E : XK) (o : D → D → M D) : R2 := fun v u H Q => ∃ μ σ x y, Rel T μ H σ ∧ Rep T μ H x v ∧ Rep T μ H y u ∧ Post T E (Rep T) μ H (o x y σ) Q
theorem sndD {T : Tb} {E : XK} {o : D → D → M D} : SndOp T E (rD T E o) o := fun μ H σ x y v u Q r p q h => ⟨μ, σ, x, y, r, p, q, h⟩

section
variable {T : Tb} {E : XK} {X : Cx}
theorem int_of {μ : List Addr} {H : Hp} {i : Int} {v : V} (h : Rep T μ H (.int i) v) : v = .int i := by simpa [Rep] using h
theorem snd_I {g : Int → Int → Int} : SndOp T E (rI0 fun i j => .int (g i j)) (oI g) := by
  intro μ H σ x y v u Q r p q h
  cases x with
  | int i =>
    cases y with
    | int j => exact ⟨i, j, int_of p, int_of q, Post.here h r (by rw [Rep])⟩
    | _ => exact h.elim
  | _ => exact h.elim
theorem snd_B {g : Int → Int → Bool} : SndOp T E (rI0 fun i j => .bl (g i j)) (oB g) := by
  intro μ H σ x y v u Q r p q h
  cases x with
  | int i =>
    cases y with
    | int j => exact ⟨i, j, int_of p, int_of q, Post.here h r (by rw [Rep])⟩
    | _ => exact h.elim
  | _ => exact h.elim
theorem snd_IC {C : Int → Int → Bool} {C' : Int → Int → Prop} {g : Int → Int → Int} (hC : ∀ i j, C i j = true → C' i j) : SndOp T E (rI C' fun i j => .int (g i j)) (oIC C g) := by
  intro μ H σ x y v u Q r p q h
  cases x with
  | int i =>
    cases y with
    | int j =>
      by_cases hc : C i j = true
      · have h' : Post T E (Rep T) μ H (ret (.int (g i j)) σ) Q := by
          have e : oIC C g (.int i) (.int j) = ret (.int (g i j)) := by show (if C i j = true then _ else _) = _; rw [if_pos hc]
          rw [e] at h; exact h
        exact ⟨i, j, int_of p, int_of q, hC i j hc, Post.here h' r (by rw [Rep])⟩
      · have e : oIC C g (.int i) (.int j) = bad := by show (if C i j = true then _ else _) = _; rw [if_neg hc]
        rw [e] at h; exact h.elim
    | _ => exact h.elim
  | _ => exact h.elim
theorem snd_sub : SndOp T E (rI0 fun i j => .int (i - j)) oSub := snd_I
theorem snd_mul : SndOp T E (rI CMul fun i j => .int (i * j)) oMul := snd_IC fun i j h => by
  simp only [cMul, Bool.or_eq_true, Bool.and_eq_true, decide_eq_true_eq] at h; exact h
theorem snd_div : SndOp T E (rI CDiv fun i j => .int (i / j)) oDiv := snd_IC fun i j h => by
  simp only [cDiv, Bool.and_eq_true, decide_eq_true_eq] at h; exact h
theorem snd_mod : SndOp T E (rI (fun _ j => 0 < j) fun i j => .int (i % j)) oMod := snd_IC fun i j h => by
  simp only [cMod, decide_eq_true_eq] at h; exact h
theorem snd_pow : SndOp T E (rI CPow fun i j => .int (i ^ j.toNat)) oPow := snd_IC fun i j h => by
  simp only [cPow, Bool.and_eq_true, decide_eq_true_eq] at h; exact ⟨h.1.1, h.1.2, h.2⟩
theorem snd_shr : SndOp T E (rI (fun _ j => 0 ≤ j) fun i j => .int (i / 2 ^ j.toNat)) oShr := snd_IC fun i j h => by
  simp only [cShr, decide_eq_true_eq] at h; exact h
theorem snd_band : SndOp T E (rI0 fun i j => .int (Builtin.bitAnd i j)) oBand := snd_I
theorem snd_lt : SndOp T E (rI0 fun i j => .bl (decide (i < j))) oLt := snd_B
theorem snd_le : SndOp T E (rI0 fun i j => .bl (decide (i ≤ j))) oLe := snd_B
theorem snd_gt : SndOp T E (rI0 fun i j => .bl (decide (j < i))) oGt := snd_B
theorem snd_ge : SndOp T E (rI0 fun i j => .bl (decide (j ≤ i))) oGe := snd_B
theorem snd_neg : SndUn T E (rU fun i => .int (-i)) oNeg := by
  intro μ H σ x v Q r p h
  cases x with
  | int i => exact ⟨i, int_of p, Post.here h r (by rw [Rep])⟩
  | _ => exact h.elim
end

/-! ### equality -/
def sc : D → Option V
  | .non => some .non
  | .bl b => some (.bl b)
  | .int i => some (.int i)
  | .str x => some (.str x)
  | _ => none
def isTup : D → Bool
  | .tup _ => true
  | _ => false
def eqL (f : D → D → Option Bool) : List D → List D → Option Bool
  | [], [] => some true
  | [], _ :: _ => some false
  | _ :: _, [] => some false
  | x :: xs, y :: ys => match f x y, eqL f xs ys with
    | some b, some c => some (b && c)
    | _, _ => none
def eq0 : Nat → D → D → Option Bool
  | 0, x, y => match sc x, sc y with
    | some a, some b => some (eqV a b)
    | some _, none => if isTup y then some false else none
    | none, some _ => if isTup x then some false else none
    | none, none => none
  | n + 1, x, y => match sc x, sc y with
    | some a, some b => some (eqV a b)
    | some _, none => if isTup y then some false else none
    | none, some _ => if isTup x then some false else none
    | none, none => match x, y with
      | .tup xs, .tup ys => eqL (eq0 n) xs ys
      | _, _ => none
def eAt (f : D → D → Option Bool) (xs ys : List D) (j : Nat) : Bool := match xs[j]?, ys[j]? with
  | some a, some b => (f a b).getD false
  | _, _ => false
theorem eqL_spec (f : D → D → Option Bool) : ∀ (xs ys : List D) (b : Bool), eqL f xs ys = some b →
    (∀ (j : Nat) (a c : D), xs[j]? = some a → ys[j]? = some c → ∃ k, f a c = some k) ∧ b = ((List.range (min xs.length ys.length)).all (eAt f xs ys) && xs.length == ys.length)
  | [], [], b, h => by simp [eqL] at h; subst h; simp
  | [], y :: ys, b, h => by simp [eqL] at h; subst h; simp
  | x :: xs, [], b, h => by simp [eqL] at h; subst h; simp
  | x :: xs, y :: ys, b, h => by
    unfold eqL at h
    cases e1 : f x y with
    | none => rw [e1] at h; cases h
    | some b1 =>
      cases e2 : eqL f xs ys with
      | none => rw [e1, e2] at h; cases h
      | some b2 =>
        rw [e1, e2] at h
        cases h
        obtain ⟨h1, h2⟩ := eqL_spec f xs ys b2 e2
        refine ⟨fun j a c ha hc => ?_, ?_⟩
        · cases j with
          | zero => simp at ha hc; subst ha; subst hc; exact ⟨b1, e1⟩
          | succ j => exact h1 j a c (by simpa using ha) (by simpa using hc)
        · have e3 : min (x :: xs).length (y :: ys).length = min xs.length ys.length + 1 := by simp [Nat.succ_min_succ]
          have e4 : ∀ j, eAt f (x :: xs) (y :: ys) (j + 1) = eAt f xs ys j := fun j => by simp [eAt]
          have e5 : eAt f (x :: xs) (y :: ys) 0 = b1 := by simp [eAt, e1]
          rw [e3, List.range_succ_eq_map, List.all_cons, List.all_map, e5, h2]
          have e6 : (eAt f (x :: xs) (y :: ys) ∘ Nat.succ) = eAt f xs ys := funext fun j => e4 j
          have e7 : ((x :: xs).length == (y :: ys).length) = (xs.length == ys.length) := by simp
          rw [e6, e7, Bool.and_assoc]
section
variable {T : Tb} {μ : List Addr} {H : Hp}
theorem sc_rep {d : D} {v a : V} (h : Rep T μ H d v) (e : sc d = some a) : v = a := by
  cases d <;> simp [sc] at e <;> subst e <;> simpa [Rep] using h
theorem sc_flat {d : D} {a : V} (e : sc d = some a) : flatV a = true := by
  cases d <;> simp [sc] at e <;> subst e <;> rfl
theorem eqV_same {a : V} (h : flatV a = true) : eqV a a = true := by cases a <;> simp [flatV, eqV] at h ⊢
/-- pure data at one value are alike -/
theorem eq0_same : ∀ (n : Nat) (x y : D) (v : V) (b : Bool), Rep T μ H x v → Rep T μ H y v → eq0 n x y = some b → b = true := by
  intro n
  induction n with
  | zero =>
    intro x y v b hx hy h
    unfold eq0 at h
    cases ex : sc x with
    | some a =>
      cases ey : sc y with
      | some c =>
        rw [ex, ey] at h; cases h
        rw [← sc_rep hx ex, ← sc_rep hy ey]
        exact eqV_same (by rw [sc_rep hx ex]; exact sc_flat ex)
      | none =>
        rw [ex, ey] at h
        have e1 := sc_rep hx ex
        cases y with
        | tup ys => rw [Rep] at hy; obtain ⟨p, vs, e2, _⟩ := hy; rw [e1] at e2; subst e2; have := sc_flat ex; simp [flatV] at this
        | _ => simp [isTup] at h
    | none =>
      cases ey : sc y with
      | some c =>
        rw [ex, ey] at h
        have e1 := sc_rep hy ey
        cases x with
        | tup ys => rw [Rep] at hx; obtain ⟨p, vs, e2, _⟩ := hx; rw [e1] at e2; subst e2; have := sc_flat ey; simp [flatV] at this
        | _ => simp [isTup] at h
      | none => rw [ex, ey] at h; cases h
  | succ n ih =>
    intro x y v b hx hy h
    unfold eq0 at h
    cases ex : sc x with
    | some a =>
      cases ey : sc y with
      | some c =>
        rw [ex, ey] at h; cases h
        rw [← sc_rep hx ex, ← sc_rep hy ey]
        exact eqV_same (by rw [sc_rep hx ex]; exact sc_flat ex)
      | none =>
        rw [ex, ey] at h
        have e1 := sc_rep hx ex
        cases y with
        | tup ys => rw [Rep] at hy; obtain ⟨p, vs, e2, _⟩ := hy; rw [e1] at e2; subst e2; have := sc_flat ex; simp [flatV] at this
        | _ => simp [isTup] at h
    | none =>
      cases ey : sc y with
      | some c =>
        rw [ex, ey] at h
        have e1 := sc_rep hy ey
        cases x with
        | tup ys => rw [Rep] at hx; obtain ⟨p, vs, e2, _⟩ := hx; rw [e1] at e2; subst e2; have := sc_flat ey; simp [flatV] at this
        | _ => simp [isTup] at h
      | none =>
        rw [ex, ey] at h
        cases x with
        | tup xs =>
          cases y with
          | tup ys =>
            rw [Rep] at hx hy
            obtain ⟨p, vs, e1, h1, r1⟩ := hx
            obtain ⟨q, ws, e2, h2, r2⟩ := hy
            rw [e1] at e2; cases e2
            rw [h1] at h2; cases h2
            have go : ∀ (xs ys : List D) (vs : List V) (b : Bool), RepL T μ H xs vs → RepL T μ H ys vs → eqL (eq0 n) xs ys = some b → b = true := by
              intro xs
              induction xs with
              | nil =>
                intro ys vs b r1 r2 h
                rw [RepL] at r1; subst r1
                cases ys with
                | nil => simp [eqL] at h; exact h
                | cons y ys => rw [RepL] at r2; obtain ⟨_, _, z, _⟩ := r2; cases z
              | cons x xs ihx =>
                intro ys vs b r1 r2 h
                rw [RepL] at r1; obtain ⟨v, r, rfl, p1, q1⟩ := r1
                cases ys with
                | nil => rw [RepL] at r2; cases r2
                | cons y ys =>
                  rw [RepL] at r2; obtain ⟨v', r', z, p2, q2⟩ := r2
                  cases z
                  unfold eqL at h
                  cases e1 : eq0 n x y with
                  | none => rw [e1] at h; cases h
                  | some b1 =>
                    cases e2 : eqL (eq0 n) xs ys with
                    | none => rw [e1, e2] at h; cases h
                    | some b2 =>
                      rw [e1, e2] at h; cases h
                      rw [ih x y v b1 p1 p2 e1, ihx ys r b2 q1 q2 e2]; rfl
            exact go xs ys vs b r1 r2 h
          | _ => cases h
        | _ => cases h
end
section
variable {T : Tb} {X : Cx} {pins : List (Addr × Obj)} {st : St} {μ : List Addr} {H : Hp} {s : Shared}
theorem Inv.tupD (I : Inv X pins st H s) {ds : List D} {v : V} {u : Value} (h : Rep T μ H (.tup ds) v) (r : RelV v u) : ∃ (p : Addr) (vs : List V) (its : List Value), v = .ref p ∧ u = .ref p ∧ RepL T μ H ds vs ∧ Vals vs its ∧ s.heap.IsTuple p its.toArray := by
  rw [Rep] at h
  obtain ⟨p, vs, rfl, h1, h2⟩ := h
  obtain ⟨its, h3, h4, _⟩ := L2.Inv.tuple I (SqT.of h1)
  exact ⟨p, vs, its, rfl, r, h2, h3, h4⟩
theorem sc_tup_eqAt {A : Around} {a : V} {u : Value} {p : Addr} {its : Array Value} (fa : flatV a = true) (r : RelV a u) (hp : s.heap.IsTuple p its) (hu : A.units < cLine) : SeqAt.EqAt A s u (.ref p) false ∧ SeqAt.EqAt A s (.ref p) u false ∧ SeqAt.RcAt A s u (.ref p) false ∧ SeqAt.RcAt A s (.ref p) u false ∧ SeqAt.RcNeAt A s u (.ref p) true ∧ SeqAt.RcNeAt A s (.ref p) u true := by
  cases a with
  | non => cases r; exact ⟨.none_tuple hp hu, .tuple_none hp hu, .none_tuple hp hu, .tuple_none hp hu, .none_tuple hp hu, .tuple_none hp hu⟩
  | bl b => cases r; exact ⟨.bool_tuple b hp hu, .tuple_bool b hp hu, .bool_tuple b hp hu, .tuple_bool b hp hu, .bool_tuple b hp hu, .tuple_bool b hp hu⟩
  | int b => obtain ⟨t, rfl⟩ := r; exact ⟨.int_tuple b t hp hu, .tuple_int b t hp hu, .int_tuple b t hp hu, .tuple_int b t hp hu, .int_tuple b t hp hu, .tuple_int b t hp hu⟩
  | str b => obtain ⟨t, rfl⟩ := r; exact ⟨.str_tuple b t hp hu, .tuple_str b t hp hu, .str_tuple b t hp hu, .tuple_str b t hp hu, .str_tuple b t hp hu, .tuple_str b t hp hu⟩
  | _ => simp [flatV] at fa
theorem sc_list_at {A : Around} {a : V} {u : Value} {p : Addr} {its : Array Value} (fa : flatV a = true) (r : RelV a u) (hp : s.heap.IsList p its) (hu : A.units < cLine) : SeqAt.RcAt A s u (.ref p) false ∧ SeqAt.RcAt A s (.ref p) u false ∧ SeqAt.RcNeAt A s u (.ref p) true ∧ SeqAt.RcNeAt A s (.ref p) u true := by
  cases a with
  | non => cases r; exact ⟨.none_list hp hu, .list_none hp hu, .none_list hp hu, .list_none hp hu⟩
  | bl b => cases r; exact ⟨.bool_list b hp hu, .list_bool b hp hu, .bool_list b hp hu, .list_bool b hp hu⟩
  | int b => obtain ⟨t, rfl⟩ := r; exact ⟨.int_list b t hp hu, .list_int b t hp hu, .int_list b t hp hu, .list_int b t hp hu⟩
  | str b => obtain ⟨t, rfl⟩ := r; exact ⟨.str_list b t hp hu, .list_str b t hp hu, .str_list b t hp hu, .list_str b t hp hu⟩
  | _ => simp [flatV] at fa
theorem rc_sc {A : Around} {a b : V} {u w : Value} (ra : RelV a u) (rb : RelV b w) (fa : flatV a = true) (fb : flatV b = true) : SeqAt.RcAt A s u w (eqV a b) ∧ SeqAt.RcNeAt A s u w (!eqV a b) := by
  cases a with
  | non =>
    cases ra
    cases b with
    | non => cases rb; exact ⟨.none_none, .none_none⟩
    | bl y => cases rb; exact ⟨.none_bool y, .none_bool y⟩
    | int y => obtain ⟨t, rfl⟩ := rb; exact ⟨.none_int y t, .none_int y t⟩
    | str y => obtain ⟨t, rfl⟩ := rb; exact ⟨.none_str y t, .none_str y t⟩
    | _ => simp [flatV] at fb
  | bl x =>
    cases ra
    cases b with
    | non => cases rb; exact ⟨.bool_none x, .bool_none x⟩
    | bl y => cases rb; exact ⟨.bool_bool x y, .bool_bool x y⟩
    | int y => obtain ⟨t, rfl⟩ := rb; exact ⟨.bool_int x y t, .bool_int x y t⟩
    | str y => obtain ⟨t, rfl⟩ := rb; exact ⟨.bool_str x y t, .bool_str x y t⟩
    | _ => simp [flatV] at fb
  | int x =>
    obtain ⟨t', rfl⟩ := ra
    cases b with
    | non => cases rb; exact ⟨.int_none x t', .int_none x t'⟩
    | bl y => cases rb; exact ⟨.int_bool x t' y, .int_bool x t' y⟩
    | int y => obtain ⟨t, rfl⟩ := rb; exact ⟨.int_int x t' y t, .int_int x t' y t⟩
    | str y => obtain ⟨t, rfl⟩ := rb; exact ⟨.int_str x t' y t, .int_str x t' y t⟩
    | _ => simp [flatV] at fb
  | str x =>
    obtain ⟨t', rfl⟩ := ra
    cases b with
    | non => cases rb; exact ⟨.str_none x t', .str_none x t'⟩
    | bl y => cases rb; exact ⟨.str_bool x t' y, .str_bool x t' y⟩
    | int y => obtain ⟨t, rfl⟩ := rb; exact ⟨.str_int x t' y t, .str_int x t' y t⟩
    | str y => obtain ⟨t, rfl⟩ := rb; exact ⟨.str_str x t' y t, .str_str x t' y t⟩
    | _ => simp [flatV] at fb
  | _ => simp [flatV] at fa
theorem vals_get {xs : List V} {us : List Value} {i : Nat} {u : Value} (r : Vals xs us) (h : us[i]? = some u) : ∃ x, xs[i]? = some x ∧ RelV x u := by
  have hl := r.length
  have hi := (List.getElem?_eq_some_iff.mp h).1
  obtain ⟨u', h1, h2⟩ := r.get (i := i) (x := xs[i]'(by omega)) (by simp)
  rw [h] at h1; cases h1
  exact ⟨_, by simp, h2⟩
theorem repl_get {ds : List D} {vs : List V} {i : Nat} {v : V} (r : RepL T μ H ds vs) (h : vs[i]? = some v) : ∃ d, ds[i]? = some d ∧ Rep T μ H d v := by
  have hl := r.length
  have hi := (List.getElem?_eq_some_iff.mp h).1
  obtain ⟨v', h1, h2⟩ := r.get (i := i) (d := ds[i]'(by omega)) (by simp)
  rw [h] at h1; cases h1
  exact ⟨_, by simp, h2⟩
/-- the items of two sequences, by an answer for each pair -/
theorem items_at {A : Around} {f : D → D → Option Bool} (hf : ∀ (x y : D) (v w : V) (v' w' : Value) (b : Bool), Rep T μ H x v → Rep T μ H y w → RelV v v' → RelV w w' → f x y = some b → SeqAt.EqAt A s v' w' b)
    {xs ys : List D} {vs ws : List V} {us zs : List Value} {b : Bool} (r1 : RepL T μ H xs vs) (r2 : RepL T μ H ys ws) (q1 : Vals vs us) (q2 : Vals ws zs) (h : eqL f xs ys = some b) :
    (∀ j (h1 : j < us.toArray.size) (h2 : j < zs.toArray.size), SeqAt.EqAt A s us.toArray[j] zs.toArray[j] (eAt f xs ys j)) ∧ b = ((List.range (min us.toArray.size zs.toArray.size)).all (eAt f xs ys) && us.toArray.size == zs.toArray.size) := by
  obtain ⟨h1, h2⟩ := eqL_spec f xs ys b h
  have l1 := r1.length
  have l2 := r2.length
  have l3 := q1.length
  have l4 := q2.length
  refine ⟨fun j g1 g2 => ?_, ?_⟩
  · obtain ⟨v, e1, rv⟩ := vals_get (i := j) (u := us.toArray[j]) q1 (by simp)
    obtain ⟨w, e2, rw'⟩ := vals_get (i := j) (u := zs.toArray[j]) q2 (by simp)
    obtain ⟨x, e3, p3⟩ := repl_get r1 e1
    obtain ⟨y, e4, p4⟩ := repl_get r2 e2
    obtain ⟨k, ek⟩ := h1 j x y e3 e4
    have e5 : eAt f xs ys j = k := by simp [eAt, e3, e4, ek]
    rw [e5]
    exact hf x y v w _ _ k p3 p4 rv rw' ek
  · simp only [List.size_toArray]
    rw [h2, l1, l2, l3, l4]
theorem eq0_at (I : Inv X pins st H s) : ∀ (n : Nat) (A : Around) (x y : D) (v w : V) (v' w' : Value) (b : Bool), A.units + n < cLine → Rep T μ H x v → Rep T μ H y w → RelV v v' → RelV w w' → eq0 n x y = some b → SeqAt.EqAt A s v' w' b := by
  intro n
  induction n with
  | zero =>
    intro A x y v w v' w' b hu hx hy rv rw' h
    unfold eq0 at h
    cases ex : sc x with
    | some a =>
      have e1 := sc_rep hx ex
      subst e1
      cases ey : sc y with
      | some c =>
        have e2 := sc_rep hy ey
        subst e2
        rw [ex, ey] at h; cases h
        exact eqAt_V rv rw' (sc_flat ex) (sc_flat ey)
      | none =>
        rw [ex, ey] at h
        cases y with
        | tup ys =>
          simp [isTup] at h; subst h
          obtain ⟨p, vs, its, rfl, rfl, _, _, hp⟩ := Inv.tupD I hy rw'
          exact (sc_tup_eqAt (sc_flat ex) rv hp hu).1
        | _ => simp [isTup] at h
    | none =>
      cases ey : sc y with
      | some c =>
        have e2 := sc_rep hy ey
        subst e2
        rw [ex, ey] at h
        cases x with
        | tup ys =>
          simp [isTup] at h; subst h
          obtain ⟨p, vs, its, rfl, rfl, _, _, hp⟩ := Inv.tupD I hx rv
          exact (sc_tup_eqAt (sc_flat ey) rw' hp hu).2.1
        | _ => simp [isTup] at h
      | none => rw [ex, ey] at h; cases h
  | succ n ih =>
    intro A x y v w v' w' b hu hx hy rv rw' h
    have h0 := h
    unfold eq0 at h
    cases ex : sc x with
    | some a =>
      have e1 := sc_rep hx ex
      subst e1
      cases ey : sc y with
      | some c =>
        have e2 := sc_rep hy ey
        subst e2
        rw [ex, ey] at h; cases h
        exact eqAt_V rv rw' (sc_flat ex) (sc_flat ey)
      | none =>
        rw [ex, ey] at h
        cases y with
        | tup ys =>
          simp [isTup] at h; subst h
          obtain ⟨p, vs, its, rfl, rfl, _, _, hp⟩ := Inv.tupD I hy rw'
          exact (sc_tup_eqAt (sc_flat ex) rv hp (by omega)).1
        | _ => simp [isTup] at h
    | none =>
      cases ey : sc y with
      | some c =>
        have e2 := sc_rep hy ey
        subst e2
        rw [ex, ey] at h
        cases x with
        | tup ys =>
          simp [isTup] at h; subst h
          obtain ⟨p, vs, its, rfl, rfl, _, _, hp⟩ := Inv.tupD I hx rv
          exact (sc_tup_eqAt (sc_flat ey) rw' hp (by omega)).2.1
        | _ => simp [isTup] at h
      | none =>
        rw [ex, ey] at h
        cases x with
        | tup xs =>
          cases y with
          | tup ys =>
            obtain ⟨p, vs, its, rfl, rfl, r1, q1, hp⟩ := Inv.tupD I hx rv
            obtain ⟨q, ws, its2, rfl, rfl, r2, q2, hq⟩ := Inv.tupD I hy rw'
            by_cases hpq : p = q
            · subst hpq
              rw [eq0_same (n + 1) _ _ _ b hx hy h0]
              exact SeqAt.EqAt.same _
            · obtain ⟨h1, h2⟩ := items_at (A := A.in1) (fun x y v w v' w' b a1 a2 a3 a4 a5 => ih A.in1 x y v w v' w' b (by show A.units + 1 + n < cLine; omega) a1 a2 a3 a4 a5) r1 r2 q1 q2 h
              rw [h2]
              exact .of_refs hpq (.tuples hp hq (by omega) h1)
          | _ => cases h
        | _ => cases h
end
end L3

namespace L3
open PySem PySem.Spec PyProof.Rows L2

/-! ### lists of the store -/
def lstAt (σ : Sto) (n : Nat) : Option (List D) := match σ[n]? with
  | some (.lst xs) => some xs
  | _ => none
theorem lstAt_some {σ : Sto} {n : Nat} {xs : List D} (h : lstAt σ n = some xs) : σ[n]? = some (.lst xs) := by
  unfold lstAt at h
  cases e : σ[n]? with
  | none => rw [e] at h; cases h
  | some o => rw [e] at h; cases o <;> simp at h; subst h; rfl
section
variable {T : Tb} {E : XK} {X : Cx} {pins : List (Addr × Obj)} {st : St} {μ : List Addr} {H : Hp} {s : Shared} {σ : Sto}
theorem Rel.lst (r : Rel T μ H σ) {n : Nat} {v : V} {xs : List D} (h : Rep T μ H (.ref n) v) (e : lstAt σ n = some xs) : ∃ a vs, v = .ref a ∧ μ[n]? = some a ∧ H a = some (.lst vs) ∧ RepL T μ H xs vs := by
  obtain ⟨a, rfl, h1, vs, h2, h3⟩ := r.at h (lstAt_some e)
  exact ⟨a, vs, rfl, h1, h2, h3⟩

/-! ### == and != -/
def eqS (σ : Sto) : D → D → Option Bool
  | .ref n, .ref m => match lstAt σ n, lstAt σ m with
    | some xs, some ys => eqL (eq0 6) xs ys
    | _, _ => none
  | .ref n, y => match lstAt σ n with
    | some _ => (match y with
      | .tup _ => some false
      | y => match sc y with
        | some _ => some false
        | none => none)
    | none => none
  | x, .ref n => match lstAt σ n with
    | some _ => (match x with
      | .tup _ => some false
      | x => match sc x with
        | some _ => some false
        | none => none)
    | none => none
  | .tup xs, .tup ys => eqL (eq0 7) xs ys
  | .tup _, y => match sc y with
    | some _ => some false
    | none => none
  | x, .tup _ => match sc x with
    | some _ => some false
    | none => none
  | x, y => match sc x, sc y with
    | some a, some b => some (eqV a b)
    | _, _ => none
def oEq (x y : D) : M D := fun σ => match eqS σ x y with
  | some b => .ok (.bl b) σ
  | none => .bad
def oNe (x y : D) : M D := fun σ => match eqS σ x y with
  | some b => .ok (.bl (!b)) σ
  | none => .bad
abbrev RcBoth (A : Around) (s : Shared) (v w : Value) (b : Bool) : Prop := SeqAt.RcAt A s v w b ∧ SeqAt.RcNeAt A s v w (!b)
theorem rc_tup_sc {A : Around} (I : Inv X pins st H s) (hu : A.units < cLine) {xs : List D} {y : D} {v w a : V} {v' w' : Value} (hx : Rep T μ H (.tup xs) v) (hy : Rep T μ H y w) (rv : RelV v v') (rw' : RelV w w') (ey : sc y = some a) :
    RcBoth A s v' w' false ∧ RcBoth A s w' v' false := by
  have e2 := sc_rep hy ey
  subst e2
  obtain ⟨p, vs, its, rfl, rfl, _, _, hp⟩ := Inv.tupD I hx rv
  obtain ⟨_, _, a1, a2, a3, a4⟩ := sc_tup_eqAt (sc_flat ey) rw' hp hu
  exact ⟨⟨a2, a4⟩, a1, a3⟩
theorem rc_lst_sc {A : Around} (I : Inv X pins st H s) (r : Rel T μ H σ) (hu : A.units < cLine) {n : Nat} {xs : List D} {y : D} {v w a : V} {v' w' : Value} (hx : Rep T μ H (.ref n) v) (el : lstAt σ n = some xs) (hy : Rep T μ H y w) (rv : RelV v v') (rw' : RelV w w') (ey : sc y = some a) :
    RcBoth A s v' w' false ∧ RcBoth A s w' v' false := by
  have e2 := sc_rep hy ey
  subst e2
  obtain ⟨p, vs, rfl, _, hp, _⟩ := r.lst hx el
  cases rv
  obtain ⟨its, _, pl, _⟩ := L2.Inv.list I (SqL.of hp)
  obtain ⟨a1, a2, a3, a4⟩ := sc_list_at (sc_flat ey) rw' pl.isList hu
  exact ⟨⟨a2, a4⟩, a1, a3⟩
theorem rc_lst_tup {A : Around} (I : Inv X pins st H s) (r : Rel T μ H σ) (hu : A.units < cLine) {n : Nat} {xs ys : List D} {v w : V} {v' w' : Value} (hx : Rep T μ H (.ref n) v) (el : lstAt σ n = some xs) (hy : Rep T μ H (.tup ys) w) (rv : RelV v v') (rw' : RelV w w') :
    RcBoth A s v' w' false ∧ RcBoth A s w' v' false := by
  obtain ⟨p, vs, rfl, _, hp, _⟩ := r.lst hx el
  cases rv
  obtain ⟨its, _, pl, _⟩ := L2.Inv.list I (SqL.of hp)
  obtain ⟨q, ws, its2, rfl, rfl, _, _, hq⟩ := Inv.tupD I hy rw'
  exact ⟨⟨.list_tuple pl.isList hq hu, .list_tuple pl.isList hq hu⟩, .tuple_list hq pl.isList hu, .tuple_list hq pl.isList hu⟩
theorem rc_tups {A : Around} (I : Inv X pins st H s) (hu : A.units + 9 < cLine) {xs ys : List D} {v w : V} {v' w' : Value} {b : Bool} (hx : Rep T μ H (.tup xs) v) (hy : Rep T μ H (.tup ys) w) (rv : RelV v v') (rw' : RelV w w') (h : eqL (eq0 7) xs ys = some b) :
    RcBoth A s v' w' b := by
  obtain ⟨p, vs, its, rfl, rfl, r1, q1, hp⟩ := Inv.tupD I hx rv
  obtain ⟨q, ws, its2, rfl, rfl, r2, q2, hq⟩ := Inv.tupD I hy rw'
  obtain ⟨h1, h2⟩ := items_at (A := A.in1) (fun x y v w v' w' b a1 a2 a3 a4 a5 => eq0_at I 7 A.in1 x y v w v' w' b (by show A.units + 1 + 7 < cLine; omega) a1 a2 a3 a4 a5) r1 r2 q1 q2 h
  rw [h2]
  exact ⟨.tuples hp hq (by omega) h1, .tuples hp hq (by omega) h1⟩
theorem rc_lsts {A : Around} (I : Inv X pins st H s) (r : Rel T μ H σ) (hu : A.units + 9 < cLine) {n m : Nat} {xs ys : List D} {v w : V} {v' w' : Value} {b : Bool} (hx : Rep T μ H (.ref n) v) (el : lstAt σ n = some xs) (hy : Rep T μ H (.ref m) w) (em : lstAt σ m = some ys) (rv : RelV v v') (rw' : RelV w w') (h : eqL (eq0 6) xs ys = some b) :
    RcBoth A s v' w' b := by
  obtain ⟨p, vs, rfl, _, hp, r1⟩ := r.lst hx el
  obtain ⟨q, ws, rfl, _, hq, r2⟩ := r.lst hy em
  cases rv; cases rw'
  obtain ⟨its, q1, pl, _⟩ := L2.Inv.list I (SqL.of hp)
  obtain ⟨its2, q2, pl2, _⟩ := L2.Inv.list I (SqL.of hq)
  obtain ⟨h1, h2⟩ := items_at (A := A.in1) (fun x y v w v' w' b a1 a2 a3 a4 a5 => eq0_at I 6 A.in1 x y v w v' w' b (by show A.units + 1 + 6 < cLine; omega) a1 a2 a3 a4 a5) r1 r2 q1 q2 h
  by_cases hz : its.toArray.size = its2.toArray.size
  · have e : b = (List.range its.toArray.size).all (eAt (eq0 6) xs ys) := by rw [h2, ← hz]; simp
    rw [e]
    exact ⟨.lists pl.isList pl2.isList hz (by omega) h1, .lists pl.isList pl2.isList hz (by omega) h1⟩
  · have e : b = false := by rw [h2, beq_eq_false_iff_ne.mpr hz, Bool.and_false]
    rw [e]
    exact ⟨.lists_lengths pl.isList pl2.isList (by simpa using hz) (by omega), .lists_lengths pl.isList pl2.isList (by simpa using hz) (by omega)⟩
theorem rcS {A : Around} (I : Inv X pins st H s) (r : Rel T μ H σ) (hu : A.units + 9 < cLine) {x y : D} {v w : V} {v' w' : Value} {b : Bool} (hx : Rep T μ H x v) (hy : Rep T μ H y w) (rv : RelV v v') (rw' : RelV w w') (h : eqS σ x y = some b) : RcBoth A s v' w' b := by
  have hu0 : A.units < cLine := by omega
  cases x with
  | ref n =>
    cases y with
    | ref m =>
      unfold eqS at h; dsimp only at h
      cases e1 : lstAt σ n with
      | none => rw [e1] at h; cases h
      | some xs =>
        cases e2 : lstAt σ m with
        | none => rw [e1, e2] at h; cases h
        | some ys => rw [e1, e2] at h; exact rc_lsts I r hu hx e1 hy e2 rv rw' h
    | tup ys =>
      unfold eqS at h; dsimp only at h
      cases e1 : lstAt σ n with
      | none => rw [e1] at h; cases h
      | some xs => rw [e1] at h; cases h; exact (rc_lst_tup I r hu0 hx e1 hy rv rw').1
    | scr ns => unfold eqS at h; dsimp only at h; cases e1 : lstAt σ n <;> rw [e1] at h <;> cases h
    | _ =>
      unfold eqS at h; dsimp only at h
      cases e1 : lstAt σ n with
      | none => rw [e1] at h; cases h
      | some xs => rw [e1] at h; cases h; exact (rc_lst_sc I r hu0 hx e1 hy rv rw' rfl).1
  | tup xs =>
    cases y with
    | ref n =>
      unfold eqS at h; dsimp only at h
      cases e1 : lstAt σ n with
      | none => rw [e1] at h; cases h
      | some ys => rw [e1] at h; cases h; exact (rc_lst_tup I r hu0 hy e1 hx rw' rv).2
    | tup ys => exact rc_tups I hu hx hy rv rw' h
    | scr ns => cases h
    | _ => cases h; exact (rc_tup_sc I hu0 hx hy rv rw' rfl).1
  | scr ns =>
    cases y with
    | ref n => unfold eqS at h; dsimp only at h; cases e1 : lstAt σ n <;> rw [e1] at h <;> cases h
    | _ => cases h
  | _ =>
    cases y with
    | ref n =>
      unfold eqS at h; dsimp only at h
      cases e1 : lstAt σ n with
      | none => rw [e1] at h; cases h
      | some xs => rw [e1] at h; cases h; exact (rc_lst_sc I r hu0 hy e1 hx rw' rv rfl).2
    | tup ys => cases h; exact (rc_tup_sc I hu0 hy hx rw' rv rfl).2
    | scr ns => cases h
    | _ =>
      cases h
      have e1 := sc_rep hx rfl
      have e2 := sc_rep hy rfl
      subst e1; subst e2
      exact rc_sc rv rw' rfl rfl
theorem op_eqD (hu : X.A.units + 9 < cLine) : OpR X (compareOp .Eq) (rD T E oEq) := by
  intro pins s st H v u v' u' Q I rv ru h
  obtain ⟨μ, σ, x, y, r, hx, hy, hp⟩ := h
  unfold oEq at hp
  cases e : eqS σ x y with
  | none => rw [e] at hp; exact hp.elim
  | some b =>
    rw [e] at hp
    have := (rcS I r hu hx hy rv ru e).1 X.prog X.w X.xe (EP X pins st Q) ⟨.bl b, H, I, rfl, Post.here hp r (by rw [Rep])⟩
    exact this
theorem op_neD (hu : X.A.units + 9 < cLine) : OpR X (compareOp .NotEq) (rD T E oNe) := by
  intro pins s st H v u v' u' Q I rv ru h
  obtain ⟨μ, σ, x, y, r, hx, hy, hp⟩ := h
  unfold oNe at hp
  cases e : eqS σ x y with
  | none => rw [e] at hp; exact hp.elim
  | some b =>
    rw [e] at hp
    have := (rcS I r hu hx hy rv ru e).2 X.prog X.w X.xe (EP X pins st Q) ⟨.bl (!b), H, I, rfl, Post.here hp r (by rw [Rep])⟩
    exact this
/-- is None -/
def oIsN (x y : D) : M D := fun σ => match y with
  | .non => (match x with
    | .non => .ok (.bl true) σ
    | _ => .ok (.bl false) σ)
  | _ => .bad
def oNotN (x y : D) : M D := fun σ => match y with
  | .non => (match x with
    | .non => .ok (.bl false) σ
    | _ => .ok (.bl true) σ)
  | _ => .bad
theorem non_iff {x : D} {v : V} (h : Rep T μ H x v) : decide (v = .non) = (match x with | .non => true | _ => false) := by
  cases x with
  | non => rw [Rep] at h; subst h; rfl
  | tup ds => rw [Rep] at h; obtain ⟨p, _, rfl, _⟩ := h; simp
  | scr ds => rw [Rep] at h; obtain ⟨p, rfl, _⟩ := h; simp
  | ref ds => rw [Rep] at h; obtain ⟨p, rfl, _⟩ := h; simp
  | _ => rw [Rep] at h; subst h; simp
theorem snd_isN : SndOp T E (fun x y H Q => y = .non ∧ Q (.bl (decide (x = .non))) H) oIsN := by
  intro μ H σ x y v u Q r p q h
  cases y with
  | non =>
    refine ⟨by rw [Rep] at q; exact q, ?_⟩
    rw [non_iff p]
    cases x <;> exact Post.here h r (by rw [Rep])
  | _ => exact h.elim
theorem snd_notN : SndOp T E (fun x y H Q => y = .non ∧ Q (.bl (!decide (x = .non))) H) oNotN := by
  intro μ H σ x y v u Q r p q h
  cases y with
  | non =>
    refine ⟨by rw [Rep] at q; exact q, ?_⟩
    rw [non_iff p]
    cases x <;> exact Post.here h r (by rw [Rep] <;> rfl)
  | _ => exact h.elim

/-! ### places -/
theorem atI_rep {ds : List D} {vs : List V} {k : Int} {d : D} (r : RepL T μ H ds vs) (h : atI ds k = some d) : ∃ v, atI vs k = some v ∧ Rep T μ H d v := by
  unfold atI at h ⊢
  rw [← r.length]
  cases e : ixN ds.length k with
  | none => rw [e] at h; cases h
  | some j => rw [e] at h; exact r.get h
theorem repl_ints : ∀ (ns : List Int), RepL T μ H (ns.map D.int) (ns.map V.int)
  | [] => RepL.nil
  | n :: ns => RepL.cons (by rw [Rep]) (repl_ints ns)
def seqOf (σ : Sto) : D → Option (List D)
  | .tup xs => some xs
  | .scr ns => some (ns.map D.int)
  | .ref n => lstAt σ n
  | _ => none
def oIx (x i : D) : M D := fun σ => match i with
  | .int k => (match seqOf σ x with
    | some xs => (match atI xs k with
      | some d => .ok d σ
      | none => .bad)
    | none => .bad)
  | _ => .bad
/-- a sequence read -/
theorem seq_rep (r : Rel T μ H σ) {x : D} {v : V} {xs : List D} (h : Rep T μ H x v) (e : seqOf σ x = some xs) : ∃ p vs, v = .ref p ∧ RepL T μ H xs vs ∧ (SqL T.K H p vs ∨ SqT T.K H p vs) := by
  cases x with
  | tup ds => cases e; rw [Rep] at h; obtain ⟨p, vs, rfl, h1, h2⟩ := h; exact ⟨p, vs, rfl, h2, .inr (SqT.of h1)⟩
  | scr ns => cases e; rw [Rep] at h; obtain ⟨p, rfl, h1⟩ := h; exact ⟨p, _, rfl, repl_ints ns, .inl h1.seq⟩
  | ref n => obtain ⟨a, vs, rfl, _, h1, h2⟩ := r.lst h e; exact ⟨a, vs, rfl, h2, .inl (SqL.of h1)⟩
  | _ => cases e
theorem snd_ix (hK : T.K = X.K) : SndOp T E (fun x y H Q => rIxL X.K x y H Q ∨ rIxT X.K x y H Q) oIx := by
  intro μ H σ x y v u Q r p q h
  cases y with
  | int k =>
    unfold oIx at h
    cases e : seqOf σ x with
    | none => simp only [e] at h; exact h.elim
    | some xs =>
      simp only [e] at h
      cases e2 : atI xs k with
      | none => rw [e2] at h; exact h.elim
      | some d =>
        rw [e2] at h
        obtain ⟨a, vs, rfl, h1, h2⟩ := seq_rep r p e
        obtain ⟨w, h3, h4⟩ := atI_rep h1 e2
        rw [hK] at h2
        rcases h2 with h2 | h2
        · exact .inl ⟨a, vs, k, w, rfl, int_of q, h2, h3, Post.here h r h4⟩
        · exact .inr ⟨a, vs, k, w, rfl, int_of q, h2, h3, Post.here h r h4⟩
  | _ => exact h.elim
theorem ix_D : IxR X (fun x y H Q => rIxL X.K x y H Q ∨ rIxT X.K x y H Q) := ix_list.or ix_tup

/-! ### in -/
def isF (d : D) : Bool := (sc d).isSome
def eqF (x y : D) : Bool := match sc x, sc y with
  | some a, some b => eqV a b
  | _, _ => false
def oIn (neg : Bool) (x y : D) : M D := fun σ => match seqOf σ y with
  | some xs => if (isF x && xs.all isF) = true then .ok (.bl (if neg then !(xs.any fun z => eqF z x) else xs.any fun z => eqF z x)) σ else .bad
  | none => .bad
theorem flat_all : ∀ {ds : List D} {vs : List V}, RepL T μ H ds vs → ds.all isF = true → vs.all flatV = true
  | [], vs, h, _ => by rw [RepL] at h; subst h; rfl
  | d :: ds, vs, h, e => by
    rw [RepL] at h
    obtain ⟨v, r, rfl, h1, h2⟩ := h
    rw [List.all_cons, Bool.and_eq_true] at e ⊢
    obtain ⟨a, ea⟩ := Option.isSome_iff_exists.mp e.1
    exact ⟨by rw [sc_rep h1 ea]; exact sc_flat ea, flat_all h2 e.2⟩
theorem any_eqF {x : D} {a : V} (ex : sc x = some a) : ∀ {ds : List D} {vs : List V}, RepL T μ H ds vs → ds.all isF = true → (ds.any fun z => eqF z x) = vs.any fun y => eqV y a
  | [], vs, h, _ => by rw [RepL] at h; subst h; rfl
  | d :: ds, vs, h, e => by
    rw [RepL] at h
    obtain ⟨v, r, rfl, h1, h2⟩ := h
    rw [List.all_cons, Bool.and_eq_true] at e
    obtain ⟨c, ec⟩ := Option.isSome_iff_exists.mp e.1
    rw [List.any_cons, List.any_cons, any_eqF ex h2 e.2]
    have : eqF d x = eqV v a := by unfold eqF; rw [ec, ex, sc_rep h1 ec]
    rw [this]
theorem snd_in (hK : T.K = X.K) (neg : Bool) : SndOp T E (rIn X.K neg) (oIn neg) := by
  intro μ H σ x y v u Q r p q h
  unfold oIn at h
  cases e : seqOf σ y with
  | none => rw [e] at h; exact h.elim
  | some xs =>
    rw [e] at h
    by_cases hc : (isF x && xs.all isF) = true
    · simp only [hc, if_true] at h
      rw [Bool.and_eq_true] at hc
      obtain ⟨a, ea⟩ := Option.isSome_iff_exists.mp hc.1
      obtain ⟨b, vs, rfl, h1, h2⟩ := seq_rep r q e
      rw [hK] at h2
      refine ⟨b, vs, rfl, h2, by rw [sc_rep p ea]; exact sc_flat ea, flat_all h1 hc.2, ?_⟩
      have e3 : inV v vs = xs.any fun z => eqF z x := by unfold inV; rw [any_eqF ea h1 hc.2, sc_rep p ea]
      rw [e3]
      exact Post.here h r (by rw [Rep])
    · simp only [hc] at h; exact h.elim

/-! ### len, list, tuple, count, append -/
def oLen (xs : List D) : M D := fun σ => match xs with
  | [x] => (match seqOf σ x with
    | some ys => .ok (.int ys.length) σ
    | none => .bad)
  | _ => .bad
theorem snd_len (hK : T.K = X.K) : SndCall T E (fun xs H Q => ∃ p ys, xs = [.ref p] ∧ (SqL X.K H p ys ∨ SqT X.K H p ys) ∧ Q (.int ys.length) H) oLen := by
  intro μ H σ xs vs Q r p h
  match xs with
  | [] => exact h.elim
  | [x] =>
    rw [RepL] at p
    obtain ⟨v, w, rfl, p1, p2⟩ := p
    rw [RepL] at p2; subst p2
    unfold oLen at h
    cases e : seqOf σ x with
    | none => simp only [e] at h; exact h.elim
    | some ys =>
      simp only [e] at h
      obtain ⟨b, vs, rfl, h1, h2⟩ := seq_rep r p1 e
      rw [hK] at h2
      exact ⟨b, vs, rfl, h2, by rw [← h1.length]; exact Post.here h r (by rw [Rep])⟩
  | _ :: _ :: _ => exact h.elim
def oList (xs : List D) : M D := fun σ => match xs with
  | [x] => (match seqOf σ x with
    | some ys => mkLst ys σ
    | none => .bad)
  | _ => .bad
theorem snd_list (hK : T.K = X.K) : SndCall T E (fun xs H Q => ∃ p ys, xs = [.ref p] ∧ (SqL X.K H p ys ∨ SqT X.K H p ys) ∧ ∀ l, H l = none → Q (.ref l) (upd H l (.lst ys))) oList := by
  intro μ H σ xs vs Q r p h
  match xs with
  | [] => exact h.elim
  | [x] =>
    rw [RepL] at p
    obtain ⟨v, w, rfl, p1, p2⟩ := p
    rw [RepL] at p2; subst p2
    unfold oList at h
    cases e : seqOf σ x with
    | none => simp only [e] at h; exact h.elim
    | some ys =>
      simp only [e] at h
      obtain ⟨b, vs, rfl, h1, h2⟩ := seq_rep r p1 e
      rw [hK] at h2
      exact ⟨b, vs, rfl, h2, fun l hl => new_lst h r h1 hl⟩
  | _ :: _ :: _ => exact h.elim
def oTuple (xs : List D) : M D := fun σ => match xs with
  | [x] => (match seqOf σ x with
    | some ys => .ok (.tup ys) σ
    | none => .bad)
  | _ => .bad
theorem snd_tuple (hK : T.K = X.K) : SndCall T E (fun xs H Q => ∃ p ys, xs = [.ref p] ∧ ((SqL X.K H p ys ∧ ∀ l, H l = none → Q (.ref l) (upd H l (.tup ys))) ∨ (SqT X.K H p ys ∧ Q (.ref p) H))) oTuple := by
  intro μ H σ xs vs Q r p h
  match xs with
  | [] => exact h.elim
  | [x] =>
    rw [RepL] at p
    obtain ⟨v, w, rfl, p1, p2⟩ := p
    rw [RepL] at p2; subst p2
    unfold oTuple at h
    cases e : seqOf σ x with
    | none => simp only [e] at h; exact h.elim
    | some ys =>
      simp only [e] at h
      cases x with
      | tup ds =>
        cases e
        have p0 := p1
        rw [Rep] at p1; obtain ⟨b, vs, rfl, h1, h2⟩ := p1
        exact ⟨b, vs, rfl, .inr ⟨SqT.of h1, Post.here h r p0⟩⟩
      | scr ns =>
        cases e
        rw [Rep] at p1; obtain ⟨b, rfl, h1⟩ := p1
        exact ⟨b, _, rfl, .inl ⟨by rw [← hK]; exact h1.seq, fun l hl => new_tup h r (repl_ints ns) hl⟩⟩
      | ref n =>
        obtain ⟨a, vs, rfl, _, h1, h2⟩ := r.lst p1 e
        exact ⟨a, vs, rfl, .inl ⟨SqL.of h1, fun l hl => new_tup h r h2 hl⟩⟩
      | _ => cases e
  | _ :: _ :: _ => exact h.elim
end

/-! ### calls of builtins -/
def eCall (o : List D → M D) (fs : Ev → M (List D)) : Ev → M D := fun ρ => bnd (fs ρ) o
section
variable {T : Tb} {E : XK} {X : Cx} {x : Str} {p pos : Pos} {e : Expr} {es : List Expr} {fs : Ev → M (List D)} {id ty : String} {r : List V → Hp → VK → Prop} {o : List D → M D}
theorem callD (hs : SndCall T E r o) {st : St} {H : Hp} {Q : VK} (h : tF T E (eCall o fs) st H Q) : tCB r (tL T E fs) st H Q := by
  obtain ⟨μ, ρ, σ, he, hr, hp⟩ := h
  exact ⟨μ, ρ, σ, he, hr, hp.bind fun ds σ1 μ1 vs H1 _ e1 r1 p1 q1 => hs μ1 H1 σ1 ds vs Q r1 p1 q1⟩
theorem fe_callB (hc : CallR X (.builtin id) r) (hs : SndCall T E r o) (hg : Gl X x) (hm : X.mg x = none) (hv : bootBuiltins x = some (.builtin id)) (ha : FA T E X (e :: es) fs) (hn : x ≠ "__name__" := by decide) (hdb : (x == ("__debug__" : Str)) = false := by decide)
    (he : starEach (e :: es) X.env = (false, eval e X.env) :: starEach es X.env := by rfl) (hpl : (backTo pos (starEach es X.env)).any (·.1) = false := by rfl) : FE T E X (.Call (.Name x p) (e :: es) [] pos) (eCall o fs) :=
  fun pins s st H Q I h => pe_callB hc hg hm hv ha hn hdb he hpl pins s st H Q I (callD hs h)
theorem fe_callTy (hc : CallR X (.type ty) r) (hs : SndCall T E r o) (hg : Gl X x) (hm : X.mg x = none) (hv : bootBuiltins x = some (.type ty)) (ha : FA T E X (e :: es) fs) (hn : x ≠ "__name__" := by decide) (hdb : (x == ("__debug__" : Str)) = false := by decide)
    (he : starEach (e :: es) X.env = (false, eval e X.env) :: starEach es X.env := by rfl) (hpl : (backTo pos (starEach es X.env)).any (·.1) = false := by rfl) : FE T E X (.Call (.Name x p) (e :: es) [] pos) (eCall o fs) :=
  fun pins s st H Q I h => pe_callTy hc hg hm hv ha hn hdb he hpl pins s st H Q I (callD hs h)
end

/-! ### methods of lists -/
def eMeth (o : D → List D → M D) (f : Ev → M D) (fs : Ev → M (List D)) : Ev → M D := fun ρ => bnd (f ρ) fun x => fun σ => if (match x with | .ref n => (lstAt σ n).isSome | _ => false) = true then bnd (fs ρ) (fun xs => o x xs) σ else .bad
def SndMt (T : Tb) (E : XK) (r : V → List V → Hp → VK → Prop) (o : D → List D → M D) : Prop := ∀ μ H σ x xs v vs Q, Rel T μ H σ → Rep T μ H x v → RepL T μ H xs vs → Post T E (Rep T) μ H (o x xs σ) Q → r v vs H Q
def oAppend (x : D) (xs : List D) : M D := fun σ => match x, xs with
  | .ref n, [y] => (match lstAt σ n with
    | some ys => if ys.length < cap then .ok .non (σ.set n (.lst (ys ++ [y]))) else .bad
    | none => .bad)
  | _, _ => .bad
def oCount (x : D) (xs : List D) : M D := fun σ => match x, xs with
  | .ref n, [y] => (match lstAt σ n with
    | some ys => if (isF y && ys.all isF) = true then .ok (.int (ys.countP fun z => eqF z y : Nat)) σ else .bad
    | none => .bad)
  | _, _ => .bad
def rCount : V → List V → Hp → VK → Prop := fun x vs H Q => ∃ l xs y, x = .ref l ∧ vs = [y] ∧ H l = some (.lst xs) ∧ flatV y = true ∧ xs.all flatV = true ∧ Q (.int (xs.countP fun z => eqV z y : Nat)) H
section
variable {T : Tb} {E : XK} {X : Cx} {o e : Expr} {es : List Expr} {f : Ev → M D} {fs : Ev → M (List D)} {name : Str} {apos cpos : Pos} {id : String} {r : V → List V → Hp → VK → Prop} {g : D → List D → M D}
theorem countP_eqU {y : V} : ∀ {xs : List V} {us : List Value}, Vals xs us → xs.all flatV = true → us.countP (eqU y) = xs.countP fun z => eqV z y
  | _, _, .nil, _ => rfl
  | x :: xs, u :: us, .cons r t, f => by
    rw [List.all_cons, Bool.and_eq_true] at f
    rw [List.countP_cons, List.countP_cons, eqU_of r f.1, countP_eqU t f.2]
theorem mt_count : MtR X "list.count" rCount := by
  intro pins s st H x vs v us Q I rx rv h
  obtain ⟨l, xs, y, rfl, rfl, hH, fy, fx, q⟩ := h
  cases rx
  obtain ⟨u, rfl, ru⟩ := rv.one
  obtain ⟨z, its, n, r, hl, e⟩ := I.lstM hH
  refine call_meets F.slot_list_count ⟨_, e, rfl⟩ F.entry_list_count (F.args_list_count_2 _ _) (SeqAt.list_countAt l its.toArray n none #[] u (eqU y)) ⟨e, fun w hw => mem_eqAt ru fy r fx w (by simpa using hw), ?_⟩
  refine ⟨.int _, H, I.tok _, ⟨_, rfl⟩, ?_⟩
  rw [show its.toArray.toList = its by simp, countP_eqU r fx]
  exact q
theorem fe_meth (pa : PlainAttrs "list") (slot : Slot "list" name id) (hty : typeOf (.builtin id) = pure (.type "method_descriptor")) (hm : MtR X id r) (hs : SndMt T E r g) (ho : FE T E X o f) (ha : FA T E X (e :: es) fs)
    (hbase : attributeBase o name X.env (eval o X.env) = eval o X.env := by rfl)
    (hfew : ((backTo cpos (starEach (e :: es) X.env)).all (fun x => !x.1) && (backToKw cpos (keywordEach [] X.env)).all (fun x => x.1.isSome)
      && decide ((e :: es).length + ([] : List Keyword).length + (if ([] : List Keyword).isEmpty then 0 else 1) < 30)) = true := by rfl)
    (hline : (apos.endLine == cpos.line) = true := by rfl) (hst : starEach (e :: es) X.env = (false, eval e X.env) :: starEach es X.env := by rfl) (hplain : (backTo cpos (starEach es X.env)).any (·.1) = false := by rfl) :
    FE T E X (.Call (.Attribute o name apos) (e :: es) [] cpos) (eMeth g f fs) := by
  intro pins s st H Q I h
  refine pe_bm pa slot hty hm ho ha hbase hfew hline hst hplain pins s st H Q I ?_
  obtain ⟨μ, ρ, σ, he, hr, hp⟩ := h
  refine ⟨μ, ρ, σ, he, hr, hp.bind fun x σ1 μ1 v H1 _ e1 r1 p1 q1 => ?_⟩
  cases x with
  | ref n =>
    cases el : lstAt σ1 n with
    | none => simp only [el] at q1; exact q1.elim
    | some xs =>
      simp only [el, Option.isSome_some, if_true] at q1
      obtain ⟨a, vs, rfl, _, h1, h2⟩ := r1.lst p1 el
      refine ⟨.inl ⟨rfl, vs, SqL.of h1⟩, μ1, ρ, σ1, he.mono e1, r1, q1.bind fun ds σ2 μ2 ws H2 _ e2 r2 p2 q2 => ?_⟩
      exact hs μ2 H2 σ2 (.ref n) ds (.ref a) ws Q r2 (Rep.mono e2 _ _ p1) p2 q2
  | _ => exact q1.elim
theorem snd_append : SndMt T E rAppend oAppend := by
  intro μ H σ x xs v vs Q r p q h
  cases x with
  | ref n =>
    match xs with
    | [] => exact h.elim
    | [y] =>
      rw [RepL] at q
      obtain ⟨w, z, rfl, q1, q2⟩ := q
      rw [RepL] at q2; subst q2
      unfold oAppend at h
      cases el : lstAt σ n with
      | none => simp only [el] at h; exact h.elim
      | some ys =>
        simp only [el] at h
        by_cases hc : ys.length < cap
        · rw [if_pos hc] at h
          obtain ⟨a, vs, rfl, hn, h1, h2⟩ := r.lst p el
          have wr := r.write (o := .lst (vs ++ [w])) (ob := .lst (ys ++ [y])) hn ⟨_, upd_same, by
            have ex : Ext μ H μ (upd H a (.lst (vs ++ [w]))) := ext_write h1 (fun _ z => by cases z) (fun _ _ z => by cases z)
            exact RepL.append (RepL.mono ex _ _ h2) (RepL.cons (Rep.mono ex _ _ q1) RepL.nil)⟩
          exact ⟨a, vs, w, rfl, rfl, h1, by rw [← h2.length]; exact cap_lt hc, h _ _ _ wr.1 wr.2 (by rw [Rep])⟩
        · rw [if_neg hc] at h; exact h.elim
    | _ :: _ :: _ => exact h.elim
  | _ => exact h.elim
theorem countP_eqF {T : Tb} {μ : List Addr} {H : Hp} {x : D} {a : V} (ex : sc x = some a) : ∀ {ds : List D} {vs : List V}, RepL T μ H ds vs → ds.all isF = true → (ds.countP fun z => eqF z x) = vs.countP fun y => eqV y a
  | [], vs, h, _ => by rw [RepL] at h; subst h; rfl
  | d :: ds, vs, h, e => by
    rw [RepL] at h
    obtain ⟨v, r, rfl, h1, h2⟩ := h
    rw [List.all_cons, Bool.and_eq_true] at e
    obtain ⟨c, ec⟩ := Option.isSome_iff_exists.mp e.1
    rw [List.countP_cons, List.countP_cons, countP_eqF ex h2 e.2]
    have : eqF d x = eqV v a := by unfold eqF; rw [ec, ex, sc_rep h1 ec]
    rw [this]
theorem snd_count : SndMt T E rCount oCount := by
  intro μ H σ x xs v vs Q r p q h
  cases x with
  | ref n =>
    match xs with
    | [] => exact h.elim
    | [y] =>
      rw [RepL] at q
      obtain ⟨w, z, rfl, q1, q2⟩ := q
      rw [RepL] at q2; subst q2
      unfold oCount at h
      cases el : lstAt σ n with
      | none => simp only [el] at h; exact h.elim
      | some ys =>
        simp only [el] at h
        by_cases hc : (isF y && ys.all isF) = true
        · rw [if_pos hc] at h
          rw [Bool.and_eq_true] at hc
          obtain ⟨a, ea⟩ := Option.isSome_iff_exists.mp hc.1
          obtain ⟨b, vs, rfl, hn, h1, h2⟩ := r.lst p el
          refine ⟨b, vs, w, rfl, rfl, h1, by rw [sc_rep q1 ea]; exact sc_flat ea, flat_all h2 hc.2, ?_⟩
          rw [sc_rep q1 ea, ← countP_eqF ea h2 hc.2]
          exact Post.here h r (by rw [Rep])
        · rw [if_neg hc] at h; exact h.elim
    | _ :: _ :: _ => exact h.elim
  | _ => exact h.elim
end
end L3

namespace L3
open PySem PySem.Spec PyProof.Rows L2

/-! ### isinstance against a built-in type -/
inductive BT where
  | int | bool | str | tuple | list | dict
def BT.nm : BT → String
  | .int => "int" | .bool => "bool" | .str => "str" | .tuple => "tuple" | .list => "list" | .dict => "dict"
def isBT (σ : Sto) (c : BT) : D → Option Bool
  | .non => some false
  | .bl _ => some (match c with | .int => true | .bool => true | _ => false)
  | .int _ => some (match c with | .int => true | _ => false)
  | .str _ => some (match c with | .str => true | _ => false)
  | .tup _ => some (match c with | .tuple => true | _ => false)
  | .scr _ => none
  | .ref n => match σ[n]? with
    | some (.lst _) => some (match c with | .list => true | _ => false)
    | some (.dic _) => some (match c with | .dict => true | _ => false)
    | _ => none
def oIsB (c : BT) (x : D) : M D := fun σ => match isBT σ c x with
  | some b => .ok (.bl b) σ
  | none => .bad
section
variable {T : Tb} {E : XK} {X : Cx}
def rIsI (K : PySem.W.Frag) (c : String) : List V → Hp → VK → Prop := fun xs H Q => ∃ x t b, xs = [x, .ty c] ∧ TyOf K H x t ∧ PySem.W.kitOne K t (.type c) = some b ∧ Q (.bl b) H
theorem call_isI (c : String) : CallR X (.builtin "isinstance") (rIsI X.K c) := by
  intro pins s st H xs us Q I r h
  obtain ⟨x, t, b, rfl, ty, e, q⟩ := h
  obtain ⟨u, u2, rfl, ru, ru2⟩ := vals2 r
  cases ru2
  exact isinst_ok I ru ty e fun tk => ⟨.bl b, H, I.tok _, rfl, q⟩
theorem ty_of {μ : List Addr} {H : Hp} {σ : Sto} {x : D} {v : V} {c : BT} {b : Bool} (r : Rel T μ H σ) (p : Rep T μ H x v) (h : isBT σ c x = some b) : ∃ t, TyOf X.K H v t ∧ PySem.W.kitOne X.K t (.type c.nm) = some b := by
  cases x with
  | non => rw [Rep] at p; subst p; refine ⟨_, .non, ?_⟩; cases c <;> cases h <;> rfl
  | bl i => rw [Rep] at p; subst p; refine ⟨_, .bl i, ?_⟩; cases c <;> cases h <;> rfl
  | int i => rw [Rep] at p; subst p; refine ⟨_, .int i, ?_⟩; cases c <;> cases h <;> rfl
  | str i => rw [Rep] at p; subst p; refine ⟨_, .str i, ?_⟩; cases c <;> cases h <;> rfl
  | tup ds => rw [Rep] at p; obtain ⟨q, vs, rfl, h1, _⟩ := p; refine ⟨_, .tup h1, ?_⟩; cases c <;> cases h <;> rfl
  | scr ns => cases h
  | ref n =>
    unfold isBT at h; dsimp only at h
    cases e : σ[n]? with
    | none => rw [e] at h; cases h
    | some o =>
      rw [e] at h
      obtain ⟨a, rfl, _, h2⟩ := r.at p e
      cases o with
      | lst xs => obtain ⟨vs, h3, _⟩ := h2; refine ⟨_, .lst h3, ?_⟩; cases c <;> cases h <;> rfl
      | dic xs => obtain ⟨vs, h3, _⟩ := h2; refine ⟨_, .dK h3, ?_⟩; cases c <;> cases h <;> rfl
      | ins c' fs => cases h
theorem fe_isB (c : BT) {tn : Str} {e : Expr} {f : Ev → M D} {p p2 pos : Pos} (he : FE T E X e f) (hg : Gl X "isinstance") (hm : X.mg "isinstance" = none) (hg2 : Gl X tn) (hm2 : X.mg tn = none) (hv2 : bootBuiltins tn = some (.type c.nm)) (hn2 : tn ≠ "__name__" := by decide) (hd2 : (tn == ("__debug__" : Str)) = false := by decide)
    (hs : starEach [e, .Name tn p2] X.env = (false, eval e X.env) :: starEach [.Name tn p2] X.env := by rfl) (hpl : (backTo pos (starEach [.Name tn p2] X.env)).any (·.1) = false := by rfl) :
    FE T E X (.Call (.Name "isinstance" p) [e, .Name tn p2] [] pos) (eUn (oIsB c) f) := by
  intro pins s st H Q I h
  refine pe_callB (call_isI c.nm) hg hm boot_isinstance (pa_cons he (pa_cons (pe_bltn hg2 hm2 hv2 (v := .ty c.nm) rfl hn2 hd2) pa_nil) hs) (by decide) (by decide) hs hpl pins s st H Q I ?_
  obtain ⟨μ, ρ, σ, hE, hr, hp⟩ := h
  refine ⟨μ, ρ, σ, hE, hr, hp.bind fun x σ1 μ1 v H1 _ e1 r1 p1 q1 => ?_⟩
  unfold oIsB at q1
  cases eb : isBT σ1 c x with
  | none => rw [eb] at q1; exact q1.elim
  | some b =>
    rw [eb] at q1
    obtain ⟨t, h1, h2⟩ := ty_of (X := X) r1 p1 eb
    exact ⟨v, t, b, rfl, h1, h2, Post.here q1 r1 (by rw [Rep])⟩
end

end L3

namespace L3
open PySem PySem.Spec PyProof.Rows L2

/-! ### statements -/
def sNil : Ev → M Fl := fun ρ => ret (.nx ρ)
def sSeq (g h : Ev → M Fl) : Ev → M Fl := fun ρ => bnd (g ρ) fun fl => match fl with
  | .nx ρ' => h ρ'
  | o => ret o
def sRet (f : Ev → M D) : Ev → M Fl := fun ρ => bnd (f ρ) fun d => ret (.rt d)
def sExp (f : Ev → M D) : Ev → M Fl := fun ρ => bnd (f ρ) fun _ => ret (.nx ρ)
def sSet (i : Nat) (f : Ev → M D) : Ev → M Fl := fun ρ => bnd (f ρ) fun d => ret (.nx (ρ.set i (some d)))
def sIf (t : Ev → M Bool) (a b : Ev → M Fl) : Ev → M Fl := fun ρ => bnd (t ρ) fun c => if c = true then a ρ else b ρ
section
variable {T : Tb} {E : XK} {X : Cx} {st' : Stmt} {rest : List Stmt} {g h : Ev → M Fl} {e : Expr} {f : Ev → M D} {pos : Pos}
theorem fss_nil : FSs T E X [] sNil := by
  intro pins s st H D I hw
  obtain ⟨μ, ρ, σ, hE, hr, hp⟩ := hw
  exact pss_nil pins s st H D I (Post.here (g := Gl2.nx st) hp hr hE)
theorem seq_end {μ : List Addr} {H : Hp} {σ : Sto} {fl : Fl} {gl : Gl2} {D : Ends} {N : St → Hp → Prop} (r : Rel T μ H σ) (q : RFl T μ H fl gl) (k : Fl → M Fl)
    (hn : ∀ ρ, fl = .nx ρ → ∀ st, gl = .nx st → ERep T μ H ρ st → N st H) (ho : (∀ ρ, fl ≠ .nx ρ) → Post T E (RFl T) μ H (.ok fl σ) (EndQ D)) : EndQ { D with nx := N } gl H := by
  cases fl with
  | nx ρ => cases gl with
    | nx st => exact hn ρ rfl st rfl q
    | _ => exact q.elim
  | rt d => cases gl with
    | rt v => have z := Post.here (g := Gl2.rt v) (ho fun _ z => by cases z) r q; exact z
    | _ => exact q.elim
  | bk ρ => cases gl with
    | bk v => have z := Post.here (g := Gl2.bk v) (ho fun _ z => by cases z) r q; exact z
    | _ => exact q.elim
  | ct ρ => cases gl with
    | ct v => have z := Post.here (g := Gl2.ct v) (ho fun _ z => by cases z) r q; exact z
    | _ => exact q.elim
theorem fss_cons (h1 : FS T E X st' g) (h2 : FSs T E X rest h) : FSs T E X (st' :: rest) (sSeq g h) := by
  intro pins s st H D I hw
  refine pss_cons h1 h2 pins s st H D I ?_
  obtain ⟨μ, ρ, σ, hE, hr, hp⟩ := hw
  refine ⟨μ, ρ, σ, hE, hr, hp.bind fun fl σ1 μ1 gl H1 _ e1 r1 q1 p1 => ?_⟩
  refine seq_end (E := E) r1 q1 (fun _ => bad) (fun ρ' ef st1 eg he => ?_) (fun hn => ?_)
  · subst ef
    exact ⟨μ1, ρ', σ1, he, r1, p1⟩
  · cases fl with
    | nx ρ' => exact (hn ρ' rfl).elim
    | _ => exact p1
theorem fss_one (h1 : FS T E X st' g) : FSs T E X [st'] g := pss_one h1
theorem fs_ret (he : FE T E X e f) : FS T E X (.Return (some e) pos) (sRet f) := by
  intro pins s st H D I hw
  refine ps_ret he pins s st H D I ?_
  obtain ⟨μ, ρ, σ, hE, hr, hp⟩ := hw
  exact ⟨μ, ρ, σ, hE, hr, hp.bind fun d σ1 μ1 v H1 _ e1 r1 q1 p1 => Post.here (g := Gl2.rt v) p1 r1 q1⟩
theorem fs_expr (he : FE T E X e f) (hs : swapsWith e none pos.line X.env = pure false := by rfl) : FS T E X (.Expr e pos) (sExp f) := by
  intro pins s st H D I hw
  refine ps_expr he hs pins s st H D I ?_
  obtain ⟨μ, ρ, σ, hE, hr, hp⟩ := hw
  exact ⟨μ, ρ, σ, hE, hr, hp.bind fun d σ1 μ1 v H1 _ e1 r1 q1 p1 => Post.here (g := Gl2.nx st) p1 r1 (hE.mono e1)⟩
theorem fs_set {i : Nat} {x : Str} {pos' : Pos} (hN : X.N.Nodup) (hi : X.N[i]? = some x) (hx : Loc X.env.scope x) (he : FE T E X e f) (hs : swapsWith e (some (.Name x pos')) pos.line X.env = pure false := by rfl) (hf : X.fn x = true ∨ X.env.scope.names.lookup x = some .local := by first | exact .inl rfl | exact .inr rfl | assumption) :
    FS T E X (.Assign [.Name x pos'] e pos) (sSet i f) := by
  intro pins s st H D I hw
  refine ps_set hN hi hx he hs hf pins s st H D I ?_
  obtain ⟨μ, ρ, σ, hE, hr, hp⟩ := hw
  exact ⟨μ, ρ, σ, hE, hr, hp.bind fun d σ1 μ1 v H1 _ e1 r1 q1 p1 => Post.here (g := Gl2.nx (st.set i (some v))) p1 r1 ((hE.mono e1).set i q1)⟩
theorem fs_if {c : Expr} {a b : List Stmt} {tc : Ev → M Bool} {ga gb : Ev → M Fl} (hc : FT T E X c tc) (ha : FSs T E X a ga) (hb : FSs T E X b gb) : FS T E X (.If c a b pos) (sIf tc ga gb) := by
  intro pins s st H D I hw
  refine ps_if hc ha hb pins s st H D I ?_
  obtain ⟨μ, ρ, σ, hE, hr, hp⟩ := hw
  refine ⟨μ, ρ, σ, hE, hr, hp.bind fun c σ1 μ1 v H1 _ e1 r1 q1 p1 => ?_⟩
  cases q1
  cases c with
  | true => rw [if_pos rfl] at p1 ⊢; exact ⟨μ1, ρ, σ1, hE.mono e1, r1, p1⟩
  | false => rw [if_neg Bool.false_ne_true] at p1 ⊢; exact ⟨μ1, ρ, σ1, hE.mono e1, r1, p1⟩

/-! ### targets -/
def gD (T : Tb) (tg : D → Ev → Option Ev) : TG := fun v st H Q => ∃ μ σ ρ d ρ', ERep T μ H ρ st ∧ Rel T μ H σ ∧ Rep T μ H d v ∧ tg d ρ = some ρ' ∧ ∀ st', ERep T μ H ρ' st' → Q st' H
def gsD (T : Tb) (tg : List D → Ev → Option Ev) : TGs := fun vs st H Q => ∃ μ σ ρ ds ρ', ERep T μ H ρ st ∧ Rel T μ H σ ∧ RepL T μ H ds vs ∧ tg ds ρ = some ρ' ∧ ∀ st', ERep T μ H ρ' st' → Q st' H
abbrev FG (T : Tb) (X : Cx) (t : Expr) (tg : D → Ev → Option Ev) : Prop := PG X t (gD T tg)
abbrev FGs (T : Tb) (X : Cx) (ts : List Expr) (tg : List D → Ev → Option Ev) : Prop := PGs X ts (gsD T tg)
def tgN (i : Nat) : D → Ev → Option Ev := fun d ρ => some (ρ.set i (some d))
def tgNil : List D → Ev → Option Ev
  | [], ρ => some ρ
  | _ :: _, _ => none
def tgCons (t : D → Ev → Option Ev) (u : List D → Ev → Option Ev) : List D → Ev → Option Ev
  | [], _ => none
  | d :: ds, ρ => (t d ρ).bind fun ρ' => u ds ρ'
def tgT (n : Nat) (t : List D → Ev → Option Ev) : D → Ev → Option Ev
  | .tup ds, ρ => if ds.length = n then t ds ρ else none
  | _, _ => none
theorem fg_name {i : Nat} {x : Str} (hN : X.N.Nodup) (hi : X.N[i]? = some x) (hx : Loc X.env.scope x) (hf : X.fn x = true ∨ X.env.scope.names.lookup x = some .local := by first | exact .inl rfl | exact .inr rfl | assumption) : FG T X (.Name x pos) (tgN i) := by
  intro pins s st H v u Q I r h
  obtain ⟨μ, σ, ρ, d, ρ', hE, hr, hd, ht, hq⟩ := h
  cases ht
  exact pg_name hN hi hx hf pins s st H v u Q I r (hq _ (hE.set i hd))
theorem fgs_nil : FGs T X [] tgNil := by
  intro pins s st H vs us Q I r h
  obtain ⟨μ, σ, ρ, ds, ρ', hE, hr, hd, ht, hq⟩ := h
  cases ds with
  | nil => cases ht; rw [RepL] at hd; subst hd; exact pgs_nil pins s st H [] us Q I r ⟨rfl, hq _ hE⟩
  | cons d ds => cases ht
theorem fgs_cons {es : List Expr} {t : D → Ev → Option Ev} {u : List D → Ev → Option Ev} (h1 : FG T X e t) (h2 : FGs T X es u)
    (hs : (assignEach (e :: es) X.env).map (·.2) = assign e X.env :: (assignEach es X.env).map (·.2) := by rfl) : FGs T X (e :: es) (tgCons t u) := by
  intro pins s st H vs us Q I r h
  obtain ⟨μ, σ, ρ, ds, ρ', hE, hr, hd, ht, hq⟩ := h
  cases ds with
  | nil => cases ht
  | cons d ds =>
    rw [RepL] at hd
    obtain ⟨v, w, rfl, hd1, hd2⟩ := hd
    obtain ⟨ρ1, e1, e2⟩ := Option.bind_eq_some_iff.mp ht
    refine pgs_cons h1 h2 hs pins s st H (v :: w) us Q I r ⟨v, w, rfl, μ, σ, ρ, d, ρ1, hE, hr, hd1, e1, fun st1 hE1 => ?_⟩
    exact ⟨μ, σ, ρ1, ds, ρ', hE1, hr, hd2, e2, hq⟩
theorem fg_tup {es : List Expr} {k : Nat} {t : List D → Ev → Option Ev} {n : Nat} (hc : X.calm = true) (h : FGs T X es t)
    (hn : (assignEach es X.env).length = n := by rfl) (hst : (assignEach es X.env).findIdx? (·.1) = none := by rfl) : FG T X (.Tuple es k pos) (tgT n t) := by
  intro pins s st H v u Q I r hw
  obtain ⟨μ, σ, ρ, d, ρ', hE, hr, hd, ht, hq⟩ := hw
  cases d with
  | tup ds =>
    have hd0 := hd
    rw [Rep] at hd
    obtain ⟨p, vs, rfl, h1, h2⟩ := hd
    unfold tgT at ht; dsimp only at ht
    by_cases hl : ds.length = n
    · rw [if_pos hl] at ht
      exact pg_tup hc h hn hst pins s st H (.ref p) u Q I r ⟨p, vs, rfl, SqT.of h1, by rw [← h2.length]; exact hl, μ, σ, ρ, ds, ρ', hE, hr, h2, ht, hq⟩
    · rw [if_neg hl] at ht; cases ht
  | _ => cases ht
def sAsg (f : Ev → M D) (tg : D → Ev → Option Ev) : Ev → M Fl := fun ρ => bnd (f ρ) fun d => match tg d ρ with
  | some ρ' => ret (.nx ρ')
  | none => bad
theorem fs_asg {tg : Expr} {t : D → Ev → Option Ev} (he : FE T E X e f) (hg : FG T X tg t) (hs : swapsWithSole [tg] e pos.line X.env = pure false := by rfl) (hw : swappedStores [tg] e X.env = pure none := by rfl)
    (h1 : (assignEach [tg] X.env).map (·.2) = [assign tg X.env] := by rfl) : FS T E X (.Assign [tg] e pos) (sAsg f t) := by
  intro pins s st H D I hq
  refine ps_asg he hg hs hw h1 pins s st H D I ?_
  obtain ⟨μ, ρ, σ, hE, hr, hp⟩ := hq
  refine ⟨μ, ρ, σ, hE, hr, hp.bind fun d σ1 μ1 v H1 _ e1 r1 q1 p1 => ?_⟩
  cases ht : t d ρ with
  | none => simp only [ht] at p1; exact p1.elim
  | some ρ' => simp only [ht] at p1; exact ⟨μ1, σ1, ρ, d, ρ', hE.mono e1, r1, q1, ht, fun st1 hE1 => Post.here (g := Gl2.nx st1) p1 r1 hE1⟩
/-- xs[i] = v, a list of the store -/
def oSetL (x i d : D) : M Unit := fun σ => match x, i with
  | .ref n, .int k => (match lstAt σ n with
    | some xs => (match ixN xs.length k with
      | some j => .ok () (σ.set n (.lst (xs.set j d)))
      | none => .bad)
    | none => .bad)
  | _, _ => .bad
def sSetL (f fo fi : Ev → M D) : Ev → M Fl := fun ρ => bnd (f ρ) fun d => bnd (fo ρ) fun x => bnd (fi ρ) fun i => bnd (oSetL x i d) fun _ => ret (.nx ρ)
theorem fs_setL {o i : Expr} {fo fi : Ev → M D} {pos' : Pos} (he : FE T E X e f) (ho : FE T E X o fo) (hi : FE T E X i fi)
    (ha : ∀ v, assign (.Subscript o i pos') X.env v = (do
      let ov ← holding [v] (eval o X.env)
      let iv ← holding [v, ov] (eval i X.env)
      standAt pos'
      holding [v, ov, iv] (setItem ov iv v)
      release [v, ov, iv] []) := by intro _; rfl)
    (hs : swapsWithSole [.Subscript o i pos'] e pos.line X.env = pure false := by rfl) (hw : swappedStores [.Subscript o i pos'] e X.env = pure none := by rfl)
    (h1 : (assignEach [.Subscript o i pos'] X.env).map (·.2) = [assign (.Subscript o i pos') X.env] := by rfl) : FS T E X (.Assign [.Subscript o i pos'] e pos) (sSetL f fo fi) := by
  intro pins s st H D I hq
  refine ps_asg he (pg_sub ho hi set_list ha) hs hw h1 pins s st H D I ?_
  obtain ⟨μ, ρ, σ, hE, hr, hp⟩ := hq
  refine ⟨μ, ρ, σ, hE, hr, hp.bind fun d σ1 μ1 v H1 _ e1 r1 q1 p1 => ?_⟩
  refine ⟨μ1, ρ, σ1, hE.mono e1, r1, p1.bind fun x σ2 μ2 vo H2 _ e2 r2 q2 p2 => ?_⟩
  refine ⟨μ2, ρ, σ2, (hE.mono e1).mono e2, r2, p2.bind fun k σ3 μ3 vi H3 _ e3 r3 q3 p3 => ?_⟩
  have hd := Rep.mono e3 _ _ (Rep.mono e2 _ _ q1)
  have hx := Rep.mono e3 _ _ q2
  unfold bnd oSetL at p3
  cases x with
  | ref n =>
    cases k with
    | int k =>
      dsimp only at p3
      cases el : lstAt σ3 n with
      | none => rw [el] at p3; exact p3.elim
      | some xs =>
        rw [el] at p3
        dsimp only at p3
        cases ej : ixN xs.length k with
        | none => rw [ej] at p3; exact p3.elim
        | some j =>
          rw [ej] at p3
          obtain ⟨a, vs, rfl, hn, h1, h2⟩ := r3.lst hx el
          have wr := r3.write (o := .lst (vs.set j v)) (ob := .lst (xs.set j d)) hn ⟨_, upd_same, by
            have ex : Ext μ3 H3 μ3 (upd H3 a (.lst (vs.set j v))) := ext_write h1 (fun _ z => by cases z) (fun _ _ z => by cases z)
            exact RepL.set (Rep.mono ex _ _ hd) j (RepL.mono ex _ _ h2)⟩
          exact ⟨a, vs, k, j, rfl, int_of q3, h1, by rw [← h2.length]; exact ej, p3 _ (.nx st) _ wr.1 wr.2 (((hE.mono e1).mono e2).mono e3 |>.mono wr.1)⟩
    | _ => exact p3.elim
  | _ => exact p3.elim
end

end L3

namespace L3
open PySem PySem.Spec PyProof.Rows L2

/-! ### loops -/
def loop (tg : D → Ev → Option Ev) (body : Ev → M Fl) : List D → Ev → M Fl
  | [], ρ => ret (.nx ρ)
  | d :: ds, ρ => match tg d ρ with
    | none => bad
    | some ρ1 => bnd (body ρ1) fun fl => match fl with
      | .nx ρ2 => loop tg body ds ρ2
      | .ct ρ2 => loop tg body ds ρ2
      | .bk ρ2 => ret (.nx ρ2)
      | .rt d => ret (.rt d)
def rangeD (n : Nat) : List D := (List.range n).map fun (i : Nat) => D.int (i : Int)
def sForR (f : Ev → M D) (tg : D → Ev → Option Ev) (body : Ev → M Fl) : Ev → M Fl := fun ρ => bnd (f ρ) fun d => match d with
  | .int j => if (decide (-(2 ^ 62) ≤ j) && decide (j < 2 ^ 62)) = true then loop tg body (rangeD j.toNat) ρ else bad
  | _ => bad
def sForT (f : Ev → M D) (tg : D → Ev → Option Ev) (body : Ev → M Fl) : Ev → M Fl := fun ρ => bnd (f ρ) fun d => match d with
  | .tup ds => loop tg body ds ρ
  | _ => bad
def loopL (tg : D → Ev → Option Ev) (body : Ev → M Fl) (n : Nat) : Nat → Nat → Ev → M Fl
  | 0, _, _ => bad
  | k + 1, i, ρ => fun σ => match lstAt σ n with
    | none => .bad
    | some xs => match xs[i]? with
      | none => .ok (.nx ρ) σ
      | some d => match tg d ρ with
        | none => .bad
        | some ρ1 => bnd (body ρ1) (fun fl => match fl with
          | .nx ρ2 => loopL tg body n k (i + 1) ρ2
          | .ct ρ2 => loopL tg body n k (i + 1) ρ2
          | .bk ρ2 => ret (.nx ρ2)
          | .rt d => ret (.rt d)) σ
def sForL (f : Ev → M D) (tg : D → Ev → Option Ev) (body : Ev → M Fl) : Ev → M Fl := fun ρ => bnd (f ρ) fun d => match d with
  | .ref n => loopL tg body n 1001 0 ρ
  | .scr ns => loop tg body (ns.map D.int) ρ
  | _ => bad
section
variable {T : Tb} {E : XK} {X : Cx}
/-- the state between two turns -/
def LoopPv (T : Tb) (E : XK) (D : Ends) (tg : L3.D → Ev → Option Ev) (body : Ev → M Fl) (ds : List L3.D) (μ0 : List Addr) (H0 : Hp) (i : Nat) (st : St) (H : Hp) : Prop :=
  ∃ μ ρ σ, Ext μ0 H0 μ H ∧ ERep T μ H ρ st ∧ Rel T μ H σ ∧ Post T E (RFl T) μ H (loop tg body (ds.drop i) ρ σ) (EndQ D)
theorem loop_turn {D : Ends} {tg : L3.D → Ev → Option Ev} {body : Ev → M Fl} {ds : List L3.D} {μ0 : List Addr} {H0 : Hp} {i : Nat} {st : St} {H : Hp} {d : L3.D} {v : V} (hi : ds[i]? = some d) (hv : ∀ μ, Ext μ0 H0 μ H → Rep T μ H d v) (h : LoopPv T E D tg body ds μ0 H0 i st H) :
    gD T tg v st H fun st2 H2 => tS T E body { D with nx := LoopPv T E D tg body ds μ0 H0 (i + 1), ct := LoopPv T E D tg body ds μ0 H0 (i + 1), bk := D.nx } st2 H2 := by
  obtain ⟨μ, ρ, σ, ex, hE, hr, hp⟩ := h
  have hd : ds.drop i = d :: ds.drop (i + 1) := by
    obtain ⟨hl, e⟩ := List.getElem?_eq_some_iff.mp hi
    rw [← e]; exact (List.drop_eq_getElem_cons hl)
  rw [hd] at hp
  unfold loop at hp
  cases ht : tg d ρ with
  | none => rw [ht] at hp; exact hp.elim
  | some ρ1 =>
    rw [ht] at hp
    refine ⟨μ, σ, ρ, d, ρ1, hE, hr, hv μ ex, ht, fun st1 hE1 => ⟨μ, ρ1, σ, hE1, hr, hp.bind fun fl σ1 μ1 gl H1 _ e1 r1 q1 p1 => ?_⟩⟩
    cases fl with
    | nx ρ2 => cases gl with
      | nx st2 => exact ⟨μ1, ρ2, σ1, ex.trans e1, q1, r1, p1⟩
      | _ => exact q1.elim
    | ct ρ2 => cases gl with
      | ct st2 => exact ⟨μ1, ρ2, σ1, ex.trans e1, q1, r1, p1⟩
      | _ => exact q1.elim
    | bk ρ2 => cases gl with
      | bk st2 => have z : EndQ D (Gl2.nx st2) H1 := Post.here (g := Gl2.nx st2) (d := Fl.nx ρ2) p1 r1 q1; exact z
      | _ => exact q1.elim
    | rt d2 => cases gl with
      | rt v2 => have z : EndQ D (Gl2.rt v2) H1 := Post.here (g := Gl2.rt v2) (d := Fl.rt d2) p1 r1 q1; exact z
      | _ => exact q1.elim
theorem loop_end {D : Ends} {tg : L3.D → Ev → Option Ev} {body : Ev → M Fl} {ds : List L3.D} {μ0 : List Addr} {H0 : Hp} {i : Nat} {st : St} {H : Hp} (hi : ds.length ≤ i) (h : LoopPv T E D tg body ds μ0 H0 i st H) : D.nx st H := by
  obtain ⟨μ, ρ, σ, ex, hE, hr, hp⟩ := h
  rw [List.drop_eq_nil_of_le hi] at hp
  exact Post.here (g := Gl2.nx st) hp hr hE
variable {tgt iter : Expr} {body : List Stmt} {f : Ev → M D} {t : D → Ev → Option Ev} {g : Ev → M Fl} {pos : Pos}
theorem fs_forT (hp : PassesOwn (model X.prog X.w) X.A X.env X.xe) (hc : X.calm = true) (hK : T.K = X.K) (hi : FE T E X iter f) (hg : FG T X tgt t) (hb : FSs T E X body g)
    (hs : ∀ x, foldedSetIterable iter X.env x = pure x := by intro _; rfl) : FS T E X (.For tgt iter body [] pos) (sForT f t g) := by
  intro pins s st H D I hq
  refine ps_for hp hc (pi_tup hi) hg hb hs pins s st H D I ?_
  obtain ⟨μ, ρ, σ, hE, hr, hp⟩ := hq
  refine ⟨μ, ρ, σ, hE, hr, hp.bind fun d σ1 μ1 v H1 _ e1 r1 q1 p1 => ?_⟩
  cases d with
  | tup ds =>
    rw [Rep] at q1
    obtain ⟨p, vs, rfl, h1, h2⟩ := q1
    refine ⟨p, rfl, ⟨vs, SqT.of h1⟩, for_tup (xs := vs) (LoopPv T E D t g ds μ1 H1) ⟨μ1, ρ, σ1, Ext.refl _ _, hE.mono e1, r1, p1⟩ (fun i st2 H2 _ ⟨_, _, _, ex, _⟩ => SqT.of (ex.tup _ _ h1)) (fun i x st2 H2 hx hv => ?_) (fun st2 H2 hv => loop_end (Nat.le_of_eq h2.length) hv)⟩
    obtain ⟨d, hd1, hd2⟩ := repl_get h2 hx
    exact loop_turn hd1 (fun μ ex => Rep.mono ex _ _ hd2) hv
  | _ => exact p1.elim
theorem rangeD_get {n i : Nat} (h : i < n) : (rangeD n)[i]? = some (.int i) := by simp [rangeD, h]
theorem rangeD_len (n : Nat) : (rangeD n).length = n := by simp [rangeD]
theorem fs_forR {a : Expr} {p pos' : Pos} (hp : PassesOwn (model X.prog X.w) X.A X.env X.xe) (hc : X.calm = true) (hgl : Gl X "range") (hm : X.mg "range" = none) (ha : FE T E X a f) (hg : FG T X tgt t) (hb : FSs T E X body g)
    (hs : ∀ x, foldedSetIterable (.Call (.Name "range" p) [a] [] pos') X.env x = pure x := by intro _; rfl) (hst : starEach [a] X.env = [(false, eval a X.env)] := by rfl) : FS T E X (.For tgt (.Call (.Name "range" p) [a] [] pos') body [] pos) (sForR f t g) := by
  intro pins s st H D I hq
  refine ps_for hp hc (pi_range1 hgl hm (pa_cons ha pa_nil hst) hst) hg hb hs pins s st H D I ?_
  obtain ⟨μ, ρ, σ, hE, hr, hp⟩ := hq
  refine ⟨μ, ρ, σ, hE, hr, hp.bind fun d σ1 μ1 v H1 _ e1 r1 q1 p1 => ?_⟩
  cases d with
  | int j =>
    rw [Rep] at q1
    subst q1
    by_cases hj : (decide (-(2 ^ 62) ≤ j) && decide (j < 2 ^ 62)) = true
    · simp only [hj, if_true] at p1
      simp only [Bool.and_eq_true, decide_eq_true_eq] at hj
      refine ⟨j, rfl, hj.1, hj.2, for_range (n := j.toNat) (LoopPv T E D t g (rangeD j.toNat) μ1 H1) ⟨μ1, ρ, σ1, Ext.refl _ _, hE.mono e1, r1, p1⟩ (fun i st2 H2 hi hv => ?_) (fun st2 H2 hv => loop_end (by rw [rangeD_len]; exact Nat.le_refl _) hv)⟩
      have := loop_turn (T := T) (E := E) (v := .int i) (rangeD_get hi) (fun μ ex => by rw [Rep]) hv
      rw [Int.zero_add]; exact this
    · simp only [hj] at p1; exact p1.elim
  | _ => exact p1.elim
theorem fs_forL (hp : PassesOwn (model X.prog X.w) X.A X.env X.xe) (hc : X.calm = true) (hK : T.K = X.K) (hi : FE T E X iter f) (hg : FG T X tgt t) (hb : FSs T E X body g)
    (hs : ∀ x, foldedSetIterable iter X.env x = pure x := by intro _; rfl) : FS T E X (.For tgt iter body [] pos) (sForL f t g) := by
  intro pins s st H D I hq
  refine ps_for hp hc (pi_list hi) hg hb hs pins s st H D I ?_
  obtain ⟨μ, ρ, σ, hE, hr, hp⟩ := hq
  refine ⟨μ, ρ, σ, hE, hr, hp.bind fun d σ1 μ1 v H1 _ e1 r1 q1 p1 => ?_⟩
  cases d with
  | scr ns =>
    rw [Rep] at q1
    obtain ⟨p, rfl, h1⟩ := q1
    have hsc : ∀ μ2 H2, Ext μ1 H1 μ2 H2 → SqL X.K H2 p (ns.map V.int) := fun μ2 H2 ex => by
      have h2 : Rep T μ2 H2 (.scr ns) (.ref p) := Rep.mono ex _ _ (by rw [Rep]; exact ⟨p, rfl, h1⟩)
      rw [Rep] at h2
      obtain ⟨p', e', h3⟩ := h2
      cases e'
      rw [← hK]; exact h3.seq
    refine ⟨p, rfl, ⟨_, hsc _ _ (Ext.refl _ _)⟩, for_list (xs := ns.map V.int) (LoopPv T E D t g (ns.map L3.D.int) μ1 H1) ⟨μ1, ρ, σ1, Ext.refl _ _, hE.mono e1, r1, p1⟩ (fun i st2 H2 _ ⟨_, _, _, ex, _⟩ => hsc _ _ ex) (fun i x st2 H2 hx hv => ?_) (fun st2 H2 hv => loop_end (by simp) hv)⟩
    obtain ⟨d, hd1, hd2⟩ := repl_get (repl_ints (T := T) (μ := μ1) (H := H1) ns) hx
    exact loop_turn hd1 (fun μ ex => Rep.mono ex _ _ hd2) hv
  | ref n =>
    have q0 := q1
    rw [Rep] at q1
    obtain ⟨p, rfl, hn⟩ := q1
    have p1' : Post T E (RFl T) μ1 H1 (loopL t g n 1001 0 ρ σ1) (EndQ D) := p1
    have hlst : ∃ xs, lstAt σ1 n = some xs := by
      unfold loopL at p1'
      cases el : lstAt σ1 n with
      | none => simp only [el] at p1'; exact p1'.elim
      | some xs => exact ⟨xs, rfl⟩
    obtain ⟨xs0, el0⟩ := hlst
    obtain ⟨p', vs, ep, _, h1, _⟩ := r1.lst q0 el0
    cases ep
    refine ⟨p, rfl, ⟨vs, SqL.of h1⟩, fun i m st2 H2 => ∃ μ ρ σ, Ext μ1 H1 μ H2 ∧ ERep T μ H2 ρ st2 ∧ Rel T μ H2 σ ∧ Post T E (RFl T) μ H2 (loopL t g n m i ρ σ) (EndQ D), ⟨1001, μ1, ρ, σ1, Ext.refl _ _, hE.mono e1, r1, p1'⟩, ?_⟩
    rintro i m st2 H2 ⟨μ2, ρ2, σ2, ex, hE2, r2, p2⟩
    cases m with
    | zero => exact p2.elim
    | succ m =>
      unfold loopL at p2
      cases el : lstAt σ2 n with
      | none => simp only [el] at p2; exact p2.elim
      | some xs =>
        simp only [el] at p2
        obtain ⟨p'', ws, ep, _, h3, h4⟩ := r2.lst (Rep.mono ex _ _ q0) el
        cases ep
        cases ei : xs[i]? with
        | none =>
          simp only [ei] at p2
          refine .inl ⟨⟨ws, SqL.of h3, ?_⟩, Post.here (g := Gl2.nx st2) p2 r2 hE2⟩
          rw [← h4.length]; exact List.getElem?_eq_none_iff.mp ei
        | some d =>
          simp only [ei] at p2
          obtain ⟨v, hv1, hv2⟩ := h4.get ei
          refine .inr ⟨⟨ws, v, SqL.of h3, hv1⟩, fun st3 H3 => ∃ μ ρ σ, Ext μ1 H1 μ H3 ∧ ERep T μ H3 ρ st3 ∧ Rel T μ H3 σ ∧ Post T E (RFl T) μ H3 (loopL t g n m (i + 1) ρ σ) (EndQ D), fun st3 H3 h => ⟨m, Nat.lt_succ_self _, h⟩, fun x H3 y => ?_⟩
          obtain ⟨rfl, y⟩ := y
          have ex' := y ws (SqL.of h3)
          rw [hv1] at ex'; cases ex'
          cases ht : t d ρ2 with
          | none => simp only [ht] at p2; exact p2.elim
          | some ρ3 =>
            simp only [ht] at p2
            refine ⟨μ2, σ2, ρ2, d, ρ3, hE2, r2, hv2, ht, fun st3 hE3 => ⟨μ2, ρ3, σ2, hE3, r2, p2.bind fun fl σ4 μ4 gl H4 _ e4 r4 q4 p4 => ?_⟩⟩
            cases fl with
            | nx ρ5 => cases gl with
              | nx st5 => exact ⟨μ4, ρ5, σ4, ex.trans e4, q4, r4, p4⟩
              | _ => exact q4.elim
            | ct ρ5 => cases gl with
              | ct st5 => exact ⟨μ4, ρ5, σ4, ex.trans e4, q4, r4, p4⟩
              | _ => exact q4.elim
            | bk ρ5 => cases gl with
              | bk st5 => have z : EndQ D (Gl2.nx st5) H4 := Post.here (g := Gl2.nx st5) (d := Fl.nx ρ5) p4 r4 q4; exact z
              | _ => exact q4.elim
            | rt d5 => cases gl with
              | rt v5 => have z : EndQ D (Gl2.rt v5) H4 := Post.here (g := Gl2.rt v5) (d := Fl.rt d5) p4 r4 q4; exact z
              | _ => exact q4.elim
  | _ => exact p1.elim
end

end L3

namespace L3
open PySem PySem.Spec PyProof.Rows L2

/-! ### functions -/
def run (n : Nat) (g : Ev → M Fl) (ds : List D) : M D := bnd (g (ds.map some ++ List.replicate (n - ds.length) none)) fun fl => match fl with
  | .nx _ => ret .non
  | .rt d => ret d
  | _ => bad
def spF (T : Tb) (n : Nat) (f : List D → M D) : Sp := fun vs H Q E => ∃ μ σ ds, RepL T μ H ds vs ∧ ds.length = n ∧ Rel T μ H σ ∧ Post T E (Rep T) μ H (f ds σ) Q
def eFn (n : Nat) (f : List D → M D) (dds : List D) (fs : Ev → M (List D)) : Ev → M D := fun ρ => bnd (fs ρ) fun ds => if (ds ++ dds).length = n then f (ds ++ dds) else bad
section
variable {T : Tb} {E : XK} {X : Cx} {CX : CXT}
theorem start_rep {μ : List Addr} {H : Hp} {ds : List D} {vs : List V} {N : List Str} (h : RepL T μ H ds vs) : ERep T μ H (ds.map some ++ List.replicate (N.length - ds.length) none) (L2.start N vs) := by
  have hl := h.length
  refine ⟨by simp [L2.start, hl], fun i d e => ?_⟩
  by_cases hi : i < ds.length
  · rw [List.getElem?_append_left (by simpa using hi), List.getElem?_map] at e
    cases e2 : ds[i]? with
    | none => rw [e2] at e; cases e
    | some x =>
      rw [e2] at e; cases e
      obtain ⟨v, h1, h2⟩ := h.get e2
      refine ⟨v, ?_, h2⟩
      unfold L2.start
      rw [List.getElem?_append_left (by simpa [← hl] using hi), List.getElem?_map, h1]; rfl
  · rw [List.getElem?_append_right (by simpa using hi), List.getElem?_replicate] at e
    split at e <;> cases e
variable {k : Nat} {f : Addr} {fd : FuncData} {ps : List Str} {dvs : List V} {dval : List Value} {dds : List D} {x : Str} {p pos : Pos} {e : Expr} {es : List Expr} {fn : List D → M D} {fs : Ev → M (List D)}
theorem fe_call (F : FnOk X.prog X.w X.K X.mg X.base CX k f fd ps (spF T ps.length fn)) (hr : Room k X.A) (hg : Gl X x) (hm : X.mg x = some (.ref f)) (hk : PySem.W.keepIn X.K (.ref f) = true) (hb : Binds X.K fd ps dval) (hd : Vals dvs dval) (hdd : ∀ μ H, RepL T μ H dds dvs) (hx : Passes CX X E)
    (ha : FA T E X (e :: es) fs) (hdb : (x == ("__debug__" : Str)) = false := by decide) (he : starEach (e :: es) X.env = (false, eval e X.env) :: starEach es X.env := by rfl) (hpl : (backTo pos (starEach es X.env)).any (·.1) = false := by rfl) :
    FE T E X (.Call (.Name x p) (e :: es) [] pos) (eFn ps.length fn dds fs) := by
  intro pins s st H Q I h
  refine pe_call F hr hg hm hk hb hd hx ha hdb he hpl pins s st H Q I ?_
  obtain ⟨μ, ρ, σ, hE, hr, hp⟩ := h
  refine ⟨μ, ρ, σ, hE, hr, hp.bind fun ds σ1 μ1 vs H1 _ e1 r1 p1 q1 => ?_⟩
  by_cases hl : (ds ++ dds).length = ps.length
  · rw [if_pos hl] at q1
    exact ⟨μ1, σ1, ds ++ dds, p1.append (hdd _ _), hl, r1, q1⟩
  · rw [if_neg hl] at q1; exact q1.elim
variable {P : Program} {w : World} {K : PySem.W.Frag} {mg : Str → Option Value} {base : Heap}
/-- a def that raises nothing: its body's reading -/
theorem fok {x qual : Str} {st : Stmt} {N : List Str} {g : Ev → M Fl} (F : Fun K x qual st f fd) (S : FnScope N ps (defScope st))
    (hb : ∀ (cdv : Value) (A : Around) (outer : List Env) (s : Shared) (H : Hp) (E : XK), Room k (A.deeper (envOfC qual (defScope st) s.heap.objs.size f cdv)) → FSs T E (cxOf CX0 P w K mg base N qual (defScope st) f cdv A outer s H E).nox (defBody st) g) :
    FnOk P w K mg base CX0 (k + 1) f fd ps (spF T ps.length (run N.length g)) := by
  refine F.ok S (fun vs H Q E h => ?_) (fun cdv A outer s H vs Q E hr h => ?_)
  · obtain ⟨μ, σ, ds, h1, h2, _⟩ := h
    rw [← h1.length]; exact h2
  · obtain ⟨μ, σ, ds, h1, h2, h3, h4⟩ := h
    refine ⟨_, hb cdv A outer s H E hr, μ, _, σ, start_rep h1, h3, h4.bind fun fl σ1 μ1 gl H1 _ e1 r1 q1 p1 => ?_⟩
    cases fl with
    | nx ρ2 => cases gl with
      | nx st2 => have z : Q V.non H1 := Post.here (d := D.non) p1 r1 (by rw [Rep]); exact z
      | _ => exact q1.elim
    | rt d2 => cases gl with
      | rt v2 => have z : Q v2 H1 := Post.here (d := d2) p1 r1 q1; exact z
      | _ => exact q1.elim
    | _ => exact p1.elim
theorem passA {X : Cx} {E : XK} : Passes CX0 X E := fun _ _ _ _ _ _ _ h => h.elim
end
end L3

namespace L3
open PySem PySem.Spec PyProof.Rows L2

/-! ### a comprehension's cells -/
def clOf (env : Env) (names : List (Str × NameKind)) (acc : List (Str × Addr)) : List (Str × Addr) :=
  names.foldl (fun cs y => if (y.2 == .free) = true then (match env.cells.lookup y.1 with | some c => (y.1, c) :: cs | none => cs) else cs) acc
theorem closure_go (env : Env) : ∀ (names : List (Str × NameKind)) (acc : List (Str × Addr)), (∀ y ∈ names, y.2 = .free → ∃ c, env.cells.lookup y.1 = some c) →
    (forIn names acc (fun x (cs : List (Str × Addr)) => match x with | (name, kind) => if (kind == .free) = true then (do let a ← cellOf env name; pure (ForInStep.yield ((name, a) :: cs))) else pure (ForInStep.yield cs)) : Sem (List (Str × Addr))) = pure (clOf env names acc)
  | [], acc, _ => rfl
  | (n, k) :: r, acc, h => by
    rw [List.forIn_cons]
    by_cases hk : (k == NameKind.free) = true
    · obtain ⟨c, hc⟩ := h (n, k) List.mem_cons_self (by simpa using hk)
      have e1 : cellOf env n = pure c := by unfold cellOf; rw [hc]
      simp only [hk, if_true, e1]
      show (forIn r ((n, c) :: acc) _ : Sem (List (Str × Addr))) = _
      rw [closure_go env r ((n, c) :: acc) fun y hy => h y (List.mem_cons_of_mem _ hy)]
      have e2 : clOf env ((n, k) :: r) acc = clOf env r ((n, c) :: acc) := by
        unfold clOf; rw [List.foldl_cons]; simp only [hk, if_true, hc]
      rw [e2]
    · simp only [hk]
      show (forIn r acc _ : Sem (List (Str × Addr))) = _
      rw [closure_go env r acc fun y hy => h y (List.mem_cons_of_mem _ hy)]
      have e2 : clOf env ((n, k) :: r) acc = clOf env r acc := by
        unfold clOf; rw [List.foldl_cons]; simp only [hk]; rfl
      rw [e2]
theorem closure_is (env : Env) (scope : Scope) (h : ∀ y ∈ scope.names, y.2 = .free → ∃ c, env.cells.lookup y.1 = some c) : closureFor scope env = pure (clOf env scope.names []) := by
  have e := closure_go env scope.names [] h
  unfold closureFor
  simp only [bind_pure]
  exact e
theorem cl_sub (env : Env) : ∀ (names : List (Str × NameKind)) (acc : List (Str × Addr)) (n : Str) (c : Addr), (∀ n c, acc.lookup n = some c → env.cells.lookup n = some c) → (clOf env names acc).lookup n = some c → env.cells.lookup n = some c
  | [], acc, n, c, h, e => h n c e
  | (y, k) :: r, acc, n, c, h, e => by
    unfold clOf at e
    rw [List.foldl_cons] at e
    refine cl_sub env r _ n c (fun n c q => ?_) e
    by_cases hk : (k == NameKind.free) = true
    · simp only [hk, if_true] at q
      cases hc : env.cells.lookup y with
      | none => rw [hc] at q; exact h n c q
      | some c' =>
        rw [hc] at q
        rw [List.lookup_cons] at q
        cases hn : (n == y) with
        | true => rw [hn] at q; cases q; rw [eq_of_beq hn]; exact hc
        | false => rw [hn] at q; exact h n c q
    · simp only [hk] at q; exact h n c q
theorem cl_keep (env : Env) : ∀ (names : List (Str × NameKind)) (acc : List (Str × Addr)) (n : Str), (∃ c, acc.lookup n = some c) → ∃ c, (clOf env names acc).lookup n = some c
  | [], acc, n, h => h
  | (y, k) :: r, acc, n, h => by
    unfold clOf
    rw [List.foldl_cons]
    refine cl_keep env r _ n ?_
    by_cases hk : (k == NameKind.free) = true
    · simp only [hk, if_true]
      cases hc : env.cells.lookup y with
      | none => exact h
      | some c' =>
        show ∃ c, List.lookup n ((y, c') :: acc) = some c
        rw [List.lookup_cons]
        cases hn : (n == y) with
        | true => exact ⟨c', rfl⟩
        | false => exact h
    · simp only [hk]; exact h
theorem cl_has (env : Env) : ∀ (names : List (Str × NameKind)) (acc : List (Str × Addr)) (n : Str), (n, NameKind.free) ∈ names → (∃ c, env.cells.lookup n = some c) → ∃ c, (clOf env names acc).lookup n = some c
  | [], acc, n, h, _ => nomatch h
  | (y, k) :: r, acc, n, h, hc => by
    unfold clOf
    rw [List.foldl_cons]
    rcases List.mem_cons.mp h with e | e
    · cases e
      refine cl_keep env r _ _ ?_
      obtain ⟨c, hc⟩ := hc
      refine ⟨c, ?_⟩
      simp [hc]
    · exact cl_has env r _ n e hc
theorem relabel_lookup {env : Env} : ∀ {names : List (Str × NameKind)} {x : Str} {k : NameKind},
    (names.map fun (n, k) => if (k == NameKind.free && env.scope.kind == .function && env.kindOf n == some .cell) then (n, NameKind.cell) else (n, k)).lookup x = some k → ∃ k0, names.lookup x = some k0 ∧ (k = k0 ∨ (k0 = .free ∧ k = .cell))
  | [], _, _, h => by simp at h
  | (n, k0) :: r, x, k, h => by
    have ih := @relabel_lookup env r x k
    have h' : List.lookup x ((if (k0 == NameKind.free && env.scope.kind == .function && env.kindOf n == some .cell) = true then (n, NameKind.cell) else (n, k0)) :: (r.map fun (n, k) => if (k == NameKind.free && env.scope.kind == .function && env.kindOf n == some .cell) then (n, NameKind.cell) else (n, k))) = some k := h
    cases hx : x == n with
    | true =>
      by_cases hc : (k0 == NameKind.free && env.scope.kind == .function && env.kindOf n == some .cell) = true
      · rw [if_pos hc] at h'
        simp only [List.lookup_cons, hx] at h' ⊢
        cases h'
        simp only [Bool.and_eq_true] at hc
        exact ⟨k0, rfl, .inr ⟨by simpa using hc.1.1, rfl⟩⟩
      · rw [if_neg hc] at h'
        simp only [List.lookup_cons, hx] at h' ⊢
        cases h'
        exact ⟨k0, rfl, .inl rfl⟩
    | false =>
      by_cases hc : (k0 == NameKind.free && env.scope.kind == .function && env.kindOf n == some .cell) = true
      · rw [if_pos hc] at h'; simp only [List.lookup_cons, hx] at h' ⊢; exact ih h'
      · rw [if_neg hc] at h'; simp only [List.lookup_cons, hx] at h' ⊢; exact ih h'
theorem relabel_free {env : Env} : ∀ {names : List (Str × NameKind)} {x : Str}, names.lookup x = some .free →
    (names.map fun (n, k) => if (k == NameKind.free && env.scope.kind == .function && env.kindOf n == some .cell) then (n, NameKind.cell) else (n, k)).lookup x = some .cell ∨
    (names.map fun (n, k) => if (k == NameKind.free && env.scope.kind == .function && env.kindOf n == some .cell) then (n, NameKind.cell) else (n, k)).lookup x = some .free
  | [], _, h => by simp at h
  | (n, k) :: r, x, h => by
    have ih := @relabel_free env r x
    have goal : ∀ z, List.lookup x ((if (k == NameKind.free && env.scope.kind == .function && env.kindOf n == some .cell) = true then (n, NameKind.cell) else (n, k)) :: (r.map fun (n, k) => if (k == NameKind.free && env.scope.kind == .function && env.kindOf n == some .cell) then (n, NameKind.cell) else (n, k))) = z →
      (List.map (fun (n, k) => if (k == NameKind.free && env.scope.kind == .function && env.kindOf n == some .cell) then (n, NameKind.cell) else (n, k)) ((n, k) :: r)).lookup x = z := fun z e => e
    cases hx : x == n with
    | true =>
      simp only [List.lookup_cons, hx] at h
      cases h
      by_cases hc : (NameKind.free == NameKind.free && env.scope.kind == .function && env.kindOf n == some .cell) = true
      · exact .inl (goal _ (by rw [if_pos hc]; simp only [List.lookup_cons, hx]))
      · exact .inr (goal _ (by rw [if_neg hc]; simp only [List.lookup_cons, hx]))
    | false =>
      simp only [List.lookup_cons, hx] at h
      have e : List.lookup x ((if (k == NameKind.free && env.scope.kind == .function && env.kindOf n == some .cell) = true then (n, NameKind.cell) else (n, k)) :: (r.map fun (n, k) => if (k == NameKind.free && env.scope.kind == .function && env.kindOf n == some .cell) then (n, NameKind.cell) else (n, k))) =
          (r.map fun (n, k) => if (k == NameKind.free && env.scope.kind == .function && env.kindOf n == some .cell) then (n, NameKind.cell) else (n, k)).lookup x := by
        by_cases hc : (k == NameKind.free && env.scope.kind == .function && env.kindOf n == some .cell) = true
        · rw [if_pos hc]; simp only [List.lookup_cons, hx]
        · rw [if_neg hc]; simp only [List.lookup_cons, hx]
      rcases ih h with q | q
      · exact .inl (goal _ (e.trans q))
      · exact .inr (goal _ (e.trans q))
theorem mem_of_lk {names : List (Str × NameKind)} {x : Str} {k : NameKind} (h : names.lookup x = some k) : (x, k) ∈ names := PySem.mem_of_lookup h

/-! ### the block -/
def blk (X : Cx) (N' : List Str) (scope : Scope) (cl : List (Str × Addr)) (C : Addr) (s₀ : Shared) (H₀ : Hp) (ex : List Addr) : Cx :=
  { X with N := N', s₀ := s₀, H₀ := H₀, env := compEnvC scope cl C X.env, outer := X.stack, stack := X.stack, ex := ex, fn := fun _ => false, pn := [], xe := fun _ _ => False }
/-- what of the scopes a comprehension's rule asks; each by rfl -/
structure LcOk (X : Cx) (x : Str) (M' : List Str) (ix : List Nat) (scope : Scope) : Prop where
  kind : scope.kind = .function
  cell : (scope.names.all fun y => !(y.2 == .cell)) = true
  names : (scope.names.all fun y => !(y.2 == .local) || scope.names.lookup y.1 == some .local) = true
  free : (scope.names.all fun y => !(y.2 == .free) || (X.env.scope.names.lookup y.1 == some .cell || X.env.scope.names.lookup y.1 == some .free)) = true
  at_ : ix.map (fun i => X.N[i]?) = M'.map some
  vis : (M'.all fun y => (X.env.scope.names.lookup y == some .cell || X.env.scope.names.lookup y == some .free) && scope.names.lookup y == some .free) = true
def blkEv (ix : List Nat) (ρ : Ev) : Ev := none :: ix.map fun i => (ρ[i]?).getD none
def blkSt (ix : List Nat) (st : St) : St := none :: ix.map fun i => (st[i]?).getD none
theorem blk_rep {T : Tb} {μ : List Addr} {H : Hp} {ρ : Ev} {st : St} (ix : List Nat) (h : ERep T μ H ρ st) : ERep T μ H (blkEv ix ρ) (blkSt ix st) := by
  refine ⟨by simp [blkEv, blkSt], fun i d e => ?_⟩
  cases i with
  | zero => simp [blkEv] at e
  | succ j =>
    have e' : (ix.map fun i => (ρ[i]?).getD none)[j]? = some (some d) := e
    rw [List.getElem?_map] at e'
    cases ej : ix[j]? with
    | none => rw [ej] at e'; cases e'
    | some i0 =>
      rw [ej] at e'
      have e2 : (ρ[i0]?).getD none = some d := Option.some.inj e'
      have e3 : ρ[i0]? = some (some d) := by
        cases q : ρ[i0]? with
        | none => rw [q] at e2; cases e2
        | some o => rw [q] at e2; exact congrArg some e2
      obtain ⟨v, h1, h2⟩ := h.2 i0 d e3
      refine ⟨v, ?_, h2⟩
      show (ix.map fun i => (st[i]?).getD none)[j]? = _
      rw [List.getElem?_map, ej]
      show some ((st[i0]?).getD none) = _
      rw [h1]; rfl
section
variable {X : Cx} {pins : List (Addr × Obj)} {st : St} {H : Hp} {s : Shared} {x : Str} {M' : List Str} {ix : List Nat} {scope : Scope} {fp : List Addr}
theorem free_of (L : LcOk X x M' ix scope) (y : Str × NameKind) (hy : y ∈ scope.names) (e : y.2 = .free) : X.env.kindOf y.1 = some .cell ∨ X.env.kindOf y.1 = some .free := by
  have q := List.all_eq_true.mp L.free y hy
  rw [e] at q
  simp only [beq_self_eq_true, Bool.not_true, Bool.false_or, Bool.or_eq_true] at q
  rcases q with q | q
  · exact .inl (eq_of_beq q)
  · exact .inr (eq_of_beq q)
theorem clos_of (I : Inv X pins st H s) (L : LcOk X x M' ix scope) : ∀ y ∈ scope.names, y.2 = .free → ∃ c, X.env.cells.lookup y.1 = some c := fun y hy e => I.ok.has y.1 (free_of L y hy e)
theorem nocell (L : LcOk X x M' ix scope) : ∀ y ∈ scope.names, y.2 ≠ .cell := fun y hy e => by
  have q := List.all_eq_true.mp L.cell y hy
  rw [e] at q
  simp at q
/-- the block's beginning -/
theorem blk_start (I : Inv X pins st H s) (L : LcOk X x M' ix scope) (hfp : ∀ b ∈ fp, FpOk X pins H b ∧ b < s.heap.objs.size) {h' : Heap} {t' : Nat} {m : Str → Option Value} (hns : h'.Ns s.heap.objs.size m)
    (hk : ∀ b o, s.heap.get? b = some o → h'.get? b = some o) :
    Inv (blk X (x :: M') scope (clOf X.env scope.names []) s.heap.objs.size s H fp) [] (blkSt ix st) H { s with heap := h', toks := t' } := by
  have sub : ∀ n c, (clOf X.env scope.names []).lookup n = some c → X.env.cells.lookup n = some c := fun n c e => cl_sub X.env scope.names [] n c (fun _ _ q => by simp at q) e
  have cellLt : ∀ n c, X.env.cells.lookup n = some c → c < s.heap.objs.size := fun n c e => by obtain ⟨v, z⟩ := I.cell n c e; exact z.lt
  have fresh : H s.heap.objs.size = none := I.hok.fresh (Nat.le_refl _)
  refine ⟨⟨I.ok.mod, L.kind, I.ok.glob, I.ok.blt, Nat.le_refl _, fun a b c h1 h2 => I.ok.inj a b c (sub a c h1) (sub b c h2), fun a ha => ?_, fun a c h => (by cases h), I.ok.hd, I.ok.frames, .inl rfl, fun b hb => ⟨Nat.ne_of_lt (hfp b hb).2, fun a c e => ?_⟩, fun b o e => I.bs b o e, Nat.le_trans I.ok.bsz I.sz, fun b o e hb => ?_, fun b hb z => ?_, I.stack, I.stkFree⟩,
    rfl, I.bare, Un.kept hk, ⟨m, hns, fun i y v e1 e2 e3 => ?_⟩, fun a c e => ?_, fresh, fun a c e => I.freeC a c (sub a c e), fun p hp => absurd (show p ∈ ([] : List (Addr × Obj)) from hp) (by simp), I.hok.kept hk, ?_⟩
  · -- has
    have ha' : (scope.names.map fun (n, k) => if (k == NameKind.free && X.env.scope.kind == .function && X.env.kindOf n == some .cell) then (n, NameKind.cell) else (n, k)).lookup a = some .cell ∨ (scope.names.map fun (n, k) => if (k == NameKind.free && X.env.scope.kind == .function && X.env.kindOf n == some .cell) then (n, NameKind.cell) else (n, k)).lookup a = some .free := ha
    have hf : scope.names.lookup a = some .free := by
      rcases ha' with z | z
      · obtain ⟨k0, h1, h2⟩ := relabel_lookup z
        rcases h2 with h2 | ⟨h2, _⟩
        · subst h2; exact absurd rfl (nocell L _ (mem_of_lk h1))
        · rw [h2] at h1; exact h1
      · obtain ⟨k0, h1, h2⟩ := relabel_lookup z
        rcases h2 with h2 | ⟨_, h2⟩
        · rw [← h2] at h1; exact h1
        · cases h2
    exact cl_has X.env scope.names [] a (mem_of_lk hf) (clos_of I L _ (mem_of_lk hf) rfl)
  · exact (hfp b hb).1.2.2.2.2.1 a c (sub a c e)
  · rcases (hfp b hb).1.2.2.2.1 with z | z
    · exact I.ok.noex b o e z
    · exact absurd (Nat.lt_of_lt_of_le (Heap.lt_size e) (Nat.le_trans I.ok.bsz z)) (Nat.lt_irrefl _)
  · rcases List.mem_cons.mp (I.stkSub b z) with q | q
    · exact (hfp b hb).1.2.1 q
    · exact (hfp b hb).1.2.2.1 q
  · -- loc
    cases i with
    | zero => simp [blkSt] at e2
    | succ j =>
      have e1' : M'[j]? = some y := e1
      have e2' : (ix.map fun i => (st[i]?).getD none)[j]? = some (some v) := e2
      rw [List.getElem?_map] at e2'
      cases ej : ix[j]? with
      | none => rw [ej] at e2'; cases e2'
      | some i0 =>
        rw [ej] at e2'
        have e4 : (st[i0]?).getD none = some v := Option.some.inj e2'
        have e5 : st[i0]? = some (some v) := by
          cases q : st[i0]? with
          | none => rw [q] at e4; cases e4
          | some o => rw [q] at e4; exact congrArg some e4
        have e6 : X.N[i0]? = some y := by
          have z := congrArg (fun l => l[j]?) L.at_
          simp only [List.getElem?_map, ej, e1', Option.map_some] at z
          exact Option.some.inj z
        have q := List.all_eq_true.mp L.vis y (List.mem_of_getElem? e1')
        simp only [Bool.and_eq_true, Bool.or_eq_true] at q
        have kx : X.env.scope.names.lookup y = some .cell ∨ X.env.scope.names.lookup y = some .free := by
          rcases q.1 with z | z
          · exact .inl (eq_of_beq z)
          · exact .inr (eq_of_beq z)
        have ky : scope.names.lookup y = some .free := eq_of_beq q.2
        obtain ⟨m0, hn0, hl0⟩ := I.loc
        obtain ⟨u, ru, lu⟩ := hl0 i0 y v e6 e5 (by rcases kx with z | z; exact .inr (.inl z); exact .inr (.inr z))
        refine ⟨u, ru, .inr ⟨relabel_free (env := X.env) ky, ?_⟩⟩
        rcases lu with ⟨z, _⟩ | ⟨_, c, ec, zc⟩
        · rcases kx with k | k
          · rw [show X.env.kindOf y = X.env.scope.names.lookup y from rfl, k] at z; cases z
          · rw [show X.env.kindOf y = X.env.scope.names.lookup y from rfl, k] at z; cases z
        · obtain ⟨c', hc'⟩ := cl_has X.env scope.names [] y (mem_of_lk ky) (clos_of I L _ (mem_of_lk ky) rfl)
          have e7 := sub y c' hc'
          rw [ec] at e7; cases e7
          obtain ⟨o, ho, hd⟩ := zc
          exact ⟨c, hc', o, hk _ _ ho, hd⟩
  · obtain ⟨v, o, ho, hd⟩ := I.cell a c (sub a c e)
    exact ⟨v, o, hk _ _ ho, hd⟩
  · simp [blkSt, blk]
    have z := congrArg List.length L.at_
    simpa using z
end
end L3

namespace L3
open PySem PySem.Spec PyProof.Rows L2

/-! ### what a comprehension walks -/
abbrev Src := Nat → Sto → Option (Option D)
def SrcOk (T : Tb) (μ0 : List Addr) (H0 : Hp) (nx : Src) (J : It) : Prop := ∀ μ H σ i, Ext μ0 H0 μ H → Rel T μ H σ → match nx i σ with
  | none => True
  | some none => J.stop i H
  | some (some d) => J.go i H ∧ ∀ x H', J.yld i H x H' → H' = H ∧ Rep T μ H d x
def tI (T : Tb) (E : XK) (f : Ev → M Src) : TI := fun st H R => ∃ μ ρ σ, ERep T μ H ρ st ∧ Rel T μ H σ ∧ Post T E (SrcOk T) μ H (f ρ σ) R
abbrev FI (T : Tb) (E : XK) (X : Cx) (tg iter : Expr) (f : Ev → M Src) : Prop := PI X tg iter (tI T E f)
def srcT (f : Ev → M D) : Ev → M Src := fun ρ => bnd (f ρ) fun d => match d with
  | .tup ds => ret (fun i _ => some ds[i]?)
  | _ => bad
def srcR (f : Ev → M D) : Ev → M Src := fun ρ => bnd (f ρ) fun d => match d with
  | .int j => if (decide (-(2 ^ 62) ≤ j) && decide (j < 2 ^ 62)) = true then ret (fun i _ => some (if i < j.toNat then some (.int i) else none)) else bad
  | _ => bad
def srcL (f : Ev → M D) : Ev → M Src := fun ρ => bnd (f ρ) fun d => match d with
  | .ref n => fun σ => if (lstAt σ n).isSome = true then .ok (fun i σ => (lstAt σ n).map fun xs => xs[i]?) σ else .bad
  | .scr ns => ret (fun i _ => some ((ns.map D.int)[i]?))
  | _ => bad
section
variable {T : Tb} {E : XK} {X : Cx} {tg iter : Expr} {f : Ev → M D}
theorem fi_tup (h : FE T E X iter f) : FI T E X tg iter (srcT f) := by
  intro pins s st H R I hw
  refine pi_tup h pins s st H R I ?_
  obtain ⟨μ, ρ, σ, hE, hr, hp⟩ := hw
  refine ⟨μ, ρ, σ, hE, hr, hp.bind fun d σ1 μ1 v H1 _ e1 r1 q1 p1 => ?_⟩
  cases d with
  | tup ds =>
    rw [Rep] at q1
    obtain ⟨p, vs, rfl, h1, h2⟩ := q1
    refine ⟨p, rfl, ⟨vs, SqT.of h1⟩, Post.here (R := SrcOk T) p1 r1 fun μ2 H2 σ2 i ex r2 => ?_⟩
    have h3 := ex.tup _ _ h1
    have h4 := RepL.mono ex _ _ h2
    show match some ds[i]? with | none => True | some none => _ | some (some d) => _
    cases e : ds[i]? with
    | none => exact ⟨vs, SqT.of h3, by rw [← h4.length]; exact List.getElem?_eq_none_iff.mp e⟩
    | some d =>
      obtain ⟨v, hv1, hv2⟩ := h4.get e
      refine ⟨⟨vs, v, SqT.of h3, hv1⟩, fun x H' y => ?_⟩
      obtain ⟨rfl, y⟩ := y
      have := y vs (SqT.of h3)
      rw [hv1] at this; cases this
      exact ⟨rfl, hv2⟩
  | _ => exact p1.elim
theorem fi_range {a : Expr} {p pos : Pos} (hgl : Gl X "range") (hm : X.mg "range" = none) (ha : FE T E X a f) (hst : starEach [a] X.env = [(false, eval a X.env)] := by rfl) : FI T E X tg (.Call (.Name "range" p) [a] [] pos) (srcR f) := by
  intro pins s st H R I hw
  refine pi_range1 hgl hm (pa_cons ha pa_nil hst) hst pins s st H R I ?_
  obtain ⟨μ, ρ, σ, hE, hr, hp⟩ := hw
  refine ⟨μ, ρ, σ, hE, hr, hp.bind fun d σ1 μ1 v H1 _ e1 r1 q1 p1 => ?_⟩
  cases d with
  | int j =>
    rw [Rep] at q1
    subst q1
    by_cases hj : (decide (-(2 ^ 62) ≤ j) && decide (j < 2 ^ 62)) = true
    · simp only [hj, if_true] at p1
      simp only [Bool.and_eq_true, decide_eq_true_eq] at hj
      refine ⟨j, rfl, hj.1, hj.2, Post.here (R := SrcOk T) p1 r1 fun μ2 H2 σ2 i ex r2 => ?_⟩
      show match some (if i < j.toNat then some (D.int i) else none) with | none => True | some none => _ | some (some d) => _
      by_cases hi : i < j.toNat
      · rw [if_pos hi]
        refine ⟨hi, fun x H' y => ?_⟩
        obtain ⟨rfl, rfl⟩ := y
        exact ⟨rfl, by rw [Rep, Int.zero_add]⟩
      · rw [if_neg hi]
        exact Nat.not_lt.mp hi
    · simp only [hj] at p1; exact p1.elim
  | _ => exact p1.elim
theorem fi_list (hK : T.K = X.K) (h : FE T E X iter f) : FI T E X tg iter (srcL f) := by
  intro pins s st H R I hw
  refine pi_list h pins s st H R I ?_
  obtain ⟨μ, ρ, σ, hE, hr, hp⟩ := hw
  refine ⟨μ, ρ, σ, hE, hr, hp.bind fun d σ1 μ1 v H1 _ e1 r1 q1 p1 => ?_⟩
  cases d with
  | scr ns =>
    rw [Rep] at q1
    obtain ⟨p, rfl, h1⟩ := q1
    have hsc : ∀ μ2 H2, Ext μ1 H1 μ2 H2 → SqL X.K H2 p (ns.map V.int) := fun μ2 H2 ex => by
      have h2 : Rep T μ2 H2 (.scr ns) (.ref p) := Rep.mono ex _ _ (by rw [Rep]; exact ⟨p, rfl, h1⟩)
      rw [Rep] at h2
      obtain ⟨p', e', h3⟩ := h2
      cases e'
      rw [← hK]; exact h3.seq
    refine ⟨p, rfl, ⟨_, hsc _ _ (Ext.refl _ _)⟩, Post.here (R := SrcOk T) p1 r1 fun μ2 H2 σ2 i ex r2 => ?_⟩
    show match some ((ns.map D.int)[i]?) with | none => True | some none => _ | some (some d) => _
    cases e : (ns.map D.int)[i]? with
    | none => exact ⟨_, hsc _ _ ex, by simpa using List.getElem?_eq_none_iff.mp e⟩
    | some d =>
      obtain ⟨v, hv1, hv2⟩ := (repl_ints (T := T) (μ := μ2) (H := H2) ns).get e
      refine ⟨⟨_, v, hsc _ _ ex, hv1⟩, fun x H' y => ?_⟩
      obtain ⟨rfl, y⟩ := y
      have := y _ (hsc _ _ ex)
      rw [hv1] at this; cases this
      exact ⟨rfl, hv2⟩
  | ref n =>
    by_cases hc : (lstAt σ1 n).isSome = true
    · simp only [hc, if_true] at p1
      obtain ⟨xs, ex0⟩ := Option.isSome_iff_exists.mp hc
      obtain ⟨a, vs, rfl, _, h1, h2⟩ := r1.lst q1 ex0
      refine ⟨a, rfl, ⟨vs, SqL.of h1⟩, Post.here (R := SrcOk T) p1 r1 fun μ2 H2 σ2 i ex r2 => ?_⟩
      show match (lstAt σ2 n).map (fun xs => xs[i]?) with | none => True | some none => _ | some (some d) => _
      cases el : lstAt σ2 n with
      | none => trivial
      | some ys =>
        obtain ⟨a', ws, ea, _, h3, h4⟩ := r2.lst (Rep.mono ex _ _ q1) el
        cases ea
        show match some (ys[i]?) with | none => True | some none => _ | some (some d) => _
        cases e : ys[i]? with
        | none => exact ⟨ws, SqL.of h3, by rw [← h4.length]; exact List.getElem?_eq_none_iff.mp e⟩
        | some d =>
          obtain ⟨v, hv1, hv2⟩ := h4.get e
          refine ⟨⟨ws, v, SqL.of h3, hv1⟩, fun x H' y => ?_⟩
          obtain ⟨rfl, y⟩ := y
          have := y ws (SqL.of h3)
          rw [hv1] at this; cases this
          exact ⟨rfl, hv2⟩
    · simp only [hc] at p1; exact p1.elim
  | _ => exact p1.elim
end

/-! ### the comprehension -/
abbrev E00 : XK := fun _ _ _ => False
def nox {α : Type} (m : M α) : M α := fun σ => match m σ with
  | .ex _ _ => .bad
  | o => o
theorem Post.bind0 {α β γ δ : Type} {T : Tb} {E : XK} {R : List Addr → Hp → α → γ → Prop} {R' : List Addr → Hp → β → δ → Prop} {μ : List Addr} {H : Hp} {m : M α} {k : α → M β} {σ : Sto} {Q : δ → Hp → Prop} {Q1 : γ → Hp → Prop}
    (h : Post T E R' μ H (bnd (nox m) k σ) Q) (f : ∀ a σ1 μ1 g H1, m σ = .ok a σ1 → Ext μ H μ1 H1 → Rel T μ1 H1 σ1 → R μ1 H1 a g → Post T E R' μ1 H1 (k a σ1) Q → Q1 g H1) : Post T E00 R μ H (m σ) Q1 := by
  unfold bnd nox at h
  cases e : m σ with
  | ok a σ1 =>
    simp only [e] at h
    exact fun μ' g H' e' r q => f a σ1 μ' g H' e e' r q (h.mono e')
  | ex x σ1 => simp only [e] at h; exact h.elim
  | bad => simp only [e] at h; exact h
def lcLoop (nx : Src) (n : Nat) (tg : D → Ev → Option Ev) (fi : Ev → M Bool) (fe : Ev → M D) : Nat → Nat → Ev → M Unit
  | 0, _, _ => bad
  | k + 1, i, ρ => fun σ => match nx i σ with
    | none => .bad
    | some none => .ok () σ
    | some (some d) => match tg d ρ with
      | none => .bad
      | some ρ1 => bnd (nox (fi ρ1)) (fun c => if c = true then bnd (nox (fe ρ1)) fun y => bnd (oAppend (.ref n) [y]) fun _ => lcLoop nx n tg fi fe k (i + 1) ρ1 else lcLoop nx n tg fi fe k (i + 1) ρ1) σ
def eLC (src : Ev → M Src) (ix : List Nat) (tg : D → Ev → Option Ev) (fi : Ev → M Bool) (fe : Ev → M D) : Ev → M D := fun ρ => bnd (src ρ) fun nx => fun σ =>
  bnd (lcLoop nx σ.length tg fi fe 1001 0 (blkEv ix ρ)) (fun _ => ret (.ref σ.length)) (σ ++ [.lst []])
def FIf (T : Tb) (E : XK) (X : Cx) (ifs : List Expr) (f : Ev → M Bool) : Prop :=
  ∀ (pins : List (Addr × Obj)) (s : Shared) (st : St) (H : Hp) (Q : Bool → Hp → Prop), Inv X pins st H s → tT T E f st H Q →
    wpAny (model X.prog X.w) X.A (forIn ifs true fun c r => if r = true then do let ok ← isTrue c X.env (eval c X.env); pure (ForInStep.yield ok) else pure (ForInStep.yield r)) (TP X pins st Q) X.xe s
def bTrue : Ev → M Bool := fun _ => ret true
section
variable {T : Tb} {E : XK} {X : Cx}
theorem fif_nil : FIf T E X [] bTrue := by
  intro pins s st H Q I h
  obtain ⟨μ, ρ, σ, hE, hr, hp⟩ := h
  exact wpAny_tests_nil ⟨H, I, Post.here hp hr rfl⟩
theorem fif_one {c : Expr} {f : Ev → M Bool} (h : FT T E X c f) : FIf T E X [c] f := fun pins s st H Q I hw => wpAny_tests_one (h pins s st H Q I hw)
theorem un_same {fs ex : List Addr} {H H' : Hp} {h h1 h2 : Heap} {C : Addr} (u : Un fs ex H H' h h1) (hs : Heap.SameBut C h1 h2) (hC : h.objs.size ≤ C) : Un fs ex H H' h h2 := by
  have ne : ∀ b o, h.get? b = some o → b ≠ C := fun b o e => Nat.ne_of_lt (Nat.lt_of_lt_of_le (Heap.lt_size e) hC)
  refine ⟨fun b o e n hb hx => (hs.2 b (ne b o e)).trans (u.keep b o e n hb hx), fun b o e n hb hx => ?_, u.free, fun b o e hx => ?_, u.tups, u.frzs, u.tbls⟩
  · obtain ⟨sl, q⟩ := u.slot b o e n hb hx
    exact ⟨sl, (hs.2 b (ne b o e)).trans q⟩
  · obtain ⟨o', q⟩ := u.there b o e hx
    exact ⟨o', (hs.2 b (ne b o e)).trans q⟩
theorem hok_same {P : Program} {w : World} {H : Hp} {h1 h2 : Heap} {C : Addr} (ok : HOk P w H h1) (hs : Heap.SameBut C h1 h2) (hC : H C = none) : HOk P w H h2 := fun b ob e => by
  refine (ok b ob e).stay (fun c w' hc q => (hs.2 c ?_).trans q) (fun _ q => q) fun _ _ q => q
  rintro rfl
  rcases hc with rfl | hc
  · rw [hC] at e; cases e
  · rw [hC] at hc; cases hc
theorem app_rel {μ : List Addr} {H : Hp} {σ : Sto} {n : Nat} {a : Addr} {y : D} {v : V} {Q : VK} (r : Rel T μ H σ) (hn : μ[n]? = some a) (hy : Rep T μ H y v) (h : Post T E (Rep T) μ H (oAppend (.ref n) [y] σ) Q) : rAppend (.ref a) [v] H Q :=
  snd_append μ H σ (.ref n) [y] (.ref a) [v] Q r (by rw [Rep]; exact ⟨a, rfl, hn⟩) (RepL.cons hy RepL.nil) h
theorem bnd_congr {α β : Type} {m m' : M α} {k : α → M β} {σ : Sto} (h : m σ = m' σ) : bnd m k σ = bnd m' k σ := by unfold bnd; rw [h]
theorem bnd_assoc {α β γ : Type} {m : M α} {k : α → M β} {l : β → M γ} : bnd (bnd m k) l = bnd m fun a => bnd (k a) l := by
  funext σ; unfold bnd; cases m σ <;> rfl
theorem lc_core {elt iter tgt : Expr} {ifs : List Expr} {scope : Scope} {pos : Pos} {x : Str} {M' : List Str} {ix : List Nat} {tg : D → Ev → Option Ev} {fi : Ev → M Bool} {fe : Ev → M D}
    {pins : List (Addr × Obj)} {st : St} {H3 : Hp} {s3 : Shared} {h₁ : Heap} {t' : Nat} {m : Str → Option Value} {fp : List Addr} {it D0 : Addr} {tn : Nat → Heap → Prop} {J : It} {nx : Src} {μ3 : List Addr} {σ3 : Sto} {ρ : Ev} {n : Nat} {Q : VK}
    (hc : X.calm = true) (L : LcOk X x M' ix scope)
    (htg : ∀ cl C s₀ H₀ ex, FG T (blk X (x :: M') scope cl C s₀ H₀ ex) tgt tg)
    (hif : ∀ cl C s₀ H₀ ex, FIf T E00 (blk X (x :: M') scope cl C s₀ H₀ ex) ifs fi)
    (helt : ∀ cl C s₀ H₀ ex, FE T E00 (blk X (x :: M') scope cl C s₀ H₀ ex) elt fe)
    (I3 : Inv X pins st H3 s3) (hfp : ∀ b ∈ fp, FpOk X pins H3 b ∧ b < s3.heap.objs.size) (hns : h₁.Ns s3.heap.objs.size m) (kp : ∀ b o, s3.heap.get? b = some o → h₁.get? b = some o)
    (TT : Turn X.prog X.w X.K tgt J fp it tn) (hst4 : tn 0 h₁) (so : SrcOk T μ3 H3 nx J) (hE : ERep T μ3 H3 ρ st) (r3 : Rel T μ3 H3 σ3) (hn : μ3[n]? = some D0)
    (p3 : Post T E (Rep T) μ3 H3 (bnd (lcLoop nx n tg fi fe 1001 0 (blkEv ix ρ)) (fun _ => ret (.ref n)) σ3) Q) {RR : Result → Shared → Prop}
    (fin : ∀ (s6 : Shared) (H' : Hp) (m6 : Str → Option Value), s6.heap.Ns s3.heap.objs.size m6 → H' s3.heap.objs.size = none → Un (frs X.stack) fp H3 H' s3.heap s6.heap → s6.os = s3.os → HOk X.prog X.w H' s6.heap → AllBare s6.gens → Q (.ref D0) H' → RR (.ok .next) s6) :
    codeAny (model X.prog X.w) X.A (.compStart (.ListComp elt [⟨tgt, iter, ifs, 0⟩] scope pos) 0 (.ref it) (.ref D0) (compEnvC scope (clOf X.env scope.names []) s3.heap.objs.size X.env))
      RR { s3 with heap := h₁, toks := t' } := by
  have I4 := blk_start (h' := h₁) (t' := t') I3 L hfp hns kp
  let Y : Cx := blk X (x :: M') scope (clOf X.env scope.names []) s3.heap.objs.size s3 H3 fp
  have stat : ∀ {H' : Hp}, (∀ b ∈ fp, H' b = none) → ∀ b ∈ fp, FpOk Y [] H' b := fun {H'} hn b hb => ⟨hn b hb, (I4.ok.exf b hb).1, I4.ok.exfs b hb, .inl hb, (I4.ok.exf b hb).2, fun p hp => absurd (show p ∈ ([] : List (Addr × Obj)) from hp) (by simp)⟩
  have loop : codeAny (model X.prog X.w) X.A (.compLoop (.ListComp elt [⟨tgt, iter, ifs, 0⟩] scope pos) 0 (.ref it) (.ref D0) Y.env) RR { s3 with heap := h₁, toks := t' } := by
    refine codeAny_loop rfl (fun k s' => ∃ i μ' H' σ' ρ' st', Inv Y [] st' H' s' ∧ tn i s'.heap ∧ (∀ b ∈ fp, H' b = none) ∧ Ext μ3 H3 μ' H' ∧ ERep T μ' H' ρ' st' ∧ Rel T μ' H' σ' ∧
      Post T E (Rep T) μ' H' (bnd (lcLoop nx n tg fi fe k i ρ') (fun _ => ret (.ref n)) σ') Q) ?_ 1001 ⟨0, μ3, H3, σ3, blkEv ix ρ, blkSt ix st, I4, hst4, fun b hb => (hfp b hb).1.1, Ext.refl _ _, blk_rep ix hE, r3, p3⟩
    rintro k s' ⟨i, μ', H', σ', ρ', st', I', tn', fr', ex', hE', r', p'⟩
    show wpAny _ X.A ((compTurn (.ListComp elt [⟨tgt, iter, ifs, 0⟩] scope pos) 0 (.ref it) (.ref D0) Y.env).onRaise (fun x => do noteFrame x Y.env; theTreesLotGoes x)) _ _ s'
    refine wpAny_noted ?_
    rw [compTurn_list]
    refine wpAny_mono (E := fun _ _ => False) ?_ (fun _ _ z => z) (fun _ _ z => z.elim)
    refine wpAny_bind (wpAny_standAt ?_)
    cases k with
    | zero => exact p'.elim
    | succ k =>
      have so' := so μ' H' σ' i ex' r'
      cases en : nx i σ' with
      | none =>
        have e1 : lcLoop nx n tg fi fe (k + 1) i ρ' σ' = .bad := by unfold lcLoop; simp only [en]
        rw [bnd_congr (m' := bad) e1] at p'
        exact p'.elim
      | some od =>
        rw [en] at so'
        cases od with
        | none =>
          have e1 : lcLoop nx n tg fi fe (k + 1) i ρ' σ' = .ok () σ' := by unfold lcLoop; simp only [en]
          rw [bnd_congr (m' := ret ()) e1] at p'
          refine wpAny_bind (thn (TT.done Y rfl rfl rfl hc i [] s' st' H' (fun _ _ => False) I' (stat fr') tn' so') fun r s6 ⟨er, I6⟩ => ?_)
          subst er
          refine wpAny_pure ?_
          obtain ⟨m6, hm6, _⟩ := I6.loc
          exact fin s6 H' m6 hm6 I6.free I6.base I6.os I6.hok I6.bare (Post.here p' r' (by rw [Rep]; exact ⟨_, rfl, ex'.get hn⟩))
        | some d =>
          refine wpAny_bind (thn (TT.item Y rfl rfl rfl hc i [] s' st' H' (fun _ _ => False) I' (stat fr') tn' so'.1) fun r s6 ⟨u, er, h6⟩ => ?_)
          subst er
          refine wpAny_bind (thn h6 fun _ s7 ⟨xv, H7, I7, r7, y7, tn7, fr7⟩ => ?_)
          obtain ⟨eH, hd⟩ := so'.2 xv H7 y7
          subst eH
          cases et : tg d ρ' with
          | none =>
            have e1 : lcLoop nx n tg fi fe (k + 1) i ρ' σ' = .bad := by unfold lcLoop; simp only [en, et]
            rw [bnd_congr (m' := bad) e1] at p'
            exact p'.elim
          | some ρ1 =>
            have e1 : lcLoop nx n tg fi fe (k + 1) i ρ' σ' = bnd (nox (fi ρ1)) (fun c => if c = true then bnd (nox (fe ρ1)) fun y => bnd (oAppend (.ref n) [y]) fun _ => lcLoop nx n tg fi fe k (i + 1) ρ1 else lcLoop nx n tg fi fe k (i + 1) ρ1) σ' := by
              conv => lhs; unfold lcLoop
              simp only [en, et]
            rw [bnd_congr e1, bnd_assoc] at p'
            have I7' := I7.pinned (stat fr7) (TT.obj _ _ tn7)
            refine wpAny_bind (thn (htg _ _ _ _ _ _ s7 st' H7 xv u (fun st8 H8 => H8 = H7 ∧ ERep T μ' H7 ρ1 st8) I7' r7 ⟨μ', σ', ρ', d, ρ1, hE', r', hd, et, fun st8 hE8 => ⟨rfl, hE8⟩⟩) fun _ s8 ⟨st8, H8, I8, eH8, hE8⟩ => ?_)
            subst eH8
            refine wpAny_bind (thn (hif _ _ _ _ _ _ s8 st8 H8 (fun c H9 => ∃ μ9 σ9, Ext μ' H8 μ9 H9 ∧ Rel T μ9 H9 σ9 ∧ Post T E (Rep T) μ9 H9 (bnd (if c = true then bnd (nox (fe ρ1)) fun y => bnd (oAppend (.ref n) [y]) fun _ => lcLoop nx n tg fi fe k (i + 1) ρ1 else lcLoop nx n tg fi fe k (i + 1) ρ1) (fun _ => ret (.ref n)) σ9) Q) I8
              ⟨μ', ρ1, σ', hE8, r', p'.bind0 fun c σ9 μ9 c' H9 _ e9 r9 q9 p9 => by cases q9; exact ⟨μ9, σ9, e9, r9, p9⟩⟩) fun c s9 ⟨H9, I9, μ9, σ9, e9, r9, p9⟩ => ?_)
            have again : ∀ {s11 : Shared} {H11 : Hp} {μ11 : List Addr} {σ11 : Sto}, Inv Y ([] ++ pinsAt fp s7.heap) st8 H11 s11 → Ext μ' H8 μ11 H11 → Rel T μ11 H11 σ11 → Post T E (Rep T) μ11 H11 (bnd (lcLoop nx n tg fi fe k (i + 1) ρ1) (fun _ => ret (.ref n)) σ11) Q →
                ∃ m, m < k + 1 ∧ ∃ i μ' H' σ' ρ' st', Inv Y [] st' H' s11 ∧ tn i s11.heap ∧ (∀ b ∈ fp, H' b = none) ∧ Ext μ3 H3 μ' H' ∧ ERep T μ' H' ρ' st' ∧ Rel T μ' H' σ' ∧ Post T E (Rep T) μ' H' (bnd (lcLoop nx n tg fi fe m i ρ') (fun _ => ret (.ref n)) σ') Q := by
              intro s11 H11 μ11 σ11 I11 e11 r11 p11
              refine ⟨k, Nat.lt_succ_self _, i + 1, μ11, H11, σ11, ρ1, st8, I11.unpinned, TT.keep _ _ _ tn7 (fun b hb o e => (I11.pin (b, o) (List.mem_append_right _ (List.mem_append_right _ (mem_pinsAt hb e)))).1), fun b hb => ?_, ex'.trans e11, hE8.mono e11, r11, p11⟩
              obtain ⟨o, e, _⟩ := TT.obj _ _ tn7 b hb
              exact (I11.pin (b, o) (List.mem_append_right _ (List.mem_append_right _ (mem_pinsAt hb e)))).2.1
            cases c with
            | false =>
              rw [if_neg Bool.false_ne_true] at p9
              exact wpAny_pure ⟨rfl, again I9 e9 r9 p9⟩
            | true =>
              rw [if_pos rfl, bnd_assoc] at p9
              refine wpAny_bind (wpAny_bind (thn (helt _ _ _ _ _ _ s9 st8 H9 (fun v H10 => ∃ y μ10 σ10, Ext μ' H8 μ10 H10 ∧ Rel T μ10 H10 σ10 ∧ Rep T μ10 H10 y v ∧ Post T E (Rep T) μ10 H10 (bnd (oAppend (.ref n) [y]) (fun _ => bnd (lcLoop nx n tg fi fe k (i + 1) ρ1) (fun _ => ret (.ref n))) σ10) Q) I9
                ⟨μ9, ρ1, σ9, hE8.mono e9, r9, p9.bind0 fun y σ10 μ10 v H10 _ e10 r10 q10 p10 => ⟨y, μ10, σ10, e9.trans e10, r10, q10, by rw [bnd_assoc] at p10; exact p10⟩⟩) fun w s10 ⟨v, H10, I10, rw10, y, μ10, σ10, e10, r10, q10, p10⟩ => ?_))
              have happ := app_rel (Q := fun _ H11 => ∃ μ11 σ11, Ext μ' H8 μ11 H11 ∧ Rel T μ11 H11 σ11 ∧ Post T E (Rep T) μ11 H11 (bnd (lcLoop nx n tg fi fe k (i + 1) ρ1) (fun _ => ret (.ref n)) σ11) Q) r10 ((ex'.trans e10).get hn) q10
                (p10.bind fun _ σ11 μ11 v11 H11 _ e11 r11 q11 p11 => ⟨μ11, σ11, e10.trans e11, r11, p11⟩)
              refine wpAny_bind (thn (mt_append (X := Y) _ s10 st8 H10 (.ref D0) [v] (.ref D0) [w] _ I10 rfl (.cons rw10 .nil) happ) fun _ s11 ⟨v11, H11, I11, _, μ11, σ11, e11, r11, p11⟩ => ?_)
              exact wpAny_pure (wpAny_pure ⟨rfl, again I11 e11 r11 p11⟩)
  exact codeAny_compStart_list loop (TT.self X.A 0 _ _ _ hst4 loop)
theorem fe_lc {elt iter tgt : Expr} {ifs : List Expr} {scope : Scope} {pos : Pos} {x : Str} {M' : List Str} {ix : List Nat} {src : Ev → M Src} {tg : D → Ev → Option Ev} {fi : Ev → M Bool} {fe : Ev → M D}
    (hc : X.calm = true) (L : LcOk X x M' ix scope) (hsrc : FI T E X tgt iter src)
    (htg : ∀ cl C s₀ H₀ ex, FG T (blk X (x :: M') scope cl C s₀ H₀ ex) tgt tg)
    (hif : ∀ cl C s₀ H₀ ex, FIf T E00 (blk X (x :: M') scope cl C s₀ H₀ ex) ifs fi)
    (helt : ∀ cl C s₀ H₀ ex, FE T E00 (blk X (x :: M') scope cl C s₀ H₀ ex) elt fe)
    (hs : ∀ y, foldedSetIterable iter X.env y = pure y := by intro _; rfl) :
    FE T E X (.ListComp elt [⟨tgt, iter, ifs, 0⟩] scope pos) (eLC src ix tg fi fe) := by
  intro pins s st H Q I h
  obtain ⟨μ, ρ, σ, hE, hr, hp⟩ := h
  rw [eval_ListComp]
  refine wpAny_comprehension_free (use := none) rfl hs (closure_is X.env scope (clos_of I L)) L.kind (fun y hy e => ?_) ?_
  · have q := List.all_eq_true.mp L.names y hy
    rw [e] at q
    simp only [beq_self_eq_true, Bool.not_true, Bool.false_or] at q
    exact eq_of_beq q
  have h1 := hsrc pins s st H (fun J H2 => ∃ nx μ2 σ2, Ext μ H μ2 H2 ∧ Rel T μ2 H2 σ2 ∧ SrcOk T μ2 H2 nx J ∧ Post T E (Rep T) μ2 H2 (bnd (lcLoop nx σ2.length tg fi fe 1001 0 (blkEv ix ρ)) (fun _ => ret (.ref σ2.length)) (σ2 ++ [.lst []])) Q) I
    ⟨μ, ρ, σ, hE, hr, hp.bind fun nx σ1 μ1 J H1 _ e1 r1 q1 p1 => ⟨nx, μ1, σ1, e1, r1, q1, p1⟩⟩
  refine thn h1 fun v s1 h2 => thn h2 fun itv s2 h3 => ?_
  obtain ⟨it, fp, tn, J, H2, rfl, I2, TT, st2, f2, nx, μ2, σ2, ex2, r2, so, p2⟩ := h3
  refine wpAny_newObj_type (wpAny_newFunctionEnv (nocell L) (by intro y hy; simp at hy) (fun h₁ hns₁ hsb₁ => ?_) L.kind)
  have I3 := I2.lnew (ys := []) (its := []) (t' := s2.toks) .nil (by simp)
  have fr2 : H2 s2.heap.objs.size = none := I2.hok.fresh (Nat.le_refl _)
  have r3 := r2.push (p := s2.heap.objs.size) (o := .lst []) (ob := .lst []) fr2 ⟨[], upd_same, RepL.nil⟩
  have ex3 : Ext μ2 H2 (μ2 ++ [s2.heap.objs.size]) (upd H2 s2.heap.objs.size (.lst [])) := ext_push fr2
  have hsz : s2.heap.objs.size < (s2.heap.push { cls := .type "list", data := .seq ([] : List Value).toArray }).objs.size := by rw [Heap.size_push]; exact Nat.lt_succ_self _
  have kp : ∀ b o, (s2.heap.push { cls := .type "list", data := .seq ([] : List Value).toArray }).get? b = some o → h₁.get? b = some o := fun b o e => hsb₁.extBut b o (Nat.ne_of_lt (Heap.lt_size e)) (Heap.get?_push_of_some _ e)
  have hfp : ∀ b ∈ fp, FpOk X pins (upd H2 s2.heap.objs.size (.lst [])) b ∧ b < (s2.heap.push { cls := .type "list", data := .seq ([] : List Value).toArray }).objs.size := fun b hb => by
    obtain ⟨o, e, _⟩ := TT.obj 0 _ st2 b hb
    have lt := Heap.lt_size e
    exact ⟨⟨by rw [upd_ne (Nat.ne_of_lt lt)]; exact (f2 b hb).1, (f2 b hb).2⟩, Nat.lt_trans lt hsz⟩
  refine lc_core (s3 := { s2 with heap := s2.heap.push { cls := .type "list", data := .seq ([] : List Value).toArray }, toks := s2.toks }) (n := σ2.length) (D0 := s2.heap.objs.size) hc L htg hif helt I3 hfp hns₁ kp TT (TT.keep 0 _ _ st2 fun b hb o e => kp b o (Heap.get?_push_of_some _ e))
    (fun μ H σ i ex r => so μ H σ i (ex3.trans ex) r) ((hE.mono ex2).mono ex3) r3 (by rw [← r2.len]; simp) (p2.mono ex3) (fun s6 H' m6 hm6 hC' hu0 hos hok6 hb6 hq => ⟨m6, hm6, fun h7 hs7 => ?_⟩)
  have hu := un_same hu0 hs7 (Nat.le_refl _)
  have I7 := L2.Inv.call' (s' := { s6 with heap := h7 }) (ch := fp) I3 hos hu (hok_same hok6 hs7 hC') hb6 (fun b hb => ⟨(hfp b hb).1.2.2.2.1, (hfp b hb).1.2.1, (hfp b hb).1.2.2.2.2.1, (hfp b hb).1.2.2.2.2.2⟩)
  exact ⟨.ref s2.heap.objs.size, H', I7, rfl, hq⟩
/-- y = [.. for ..]: the name is stored ahead of the block's end -/
theorem fs_setLC {elt iter tgt : Expr} {ifs : List Expr} {scope : Scope} {pos spos py : Pos} {x y : Str} {i : Nat} {M' : List Str} {ix : List Nat} {src : Ev → M Src} {tg : D → Ev → Option Ev} {fi : Ev → M Bool} {fe : Ev → M D}
    (hN : X.N.Nodup) (hi : X.N[i]? = some y) (hx : Loc X.env.scope y)
    (hc : X.calm = true) (L : LcOk X x M' ix scope) (hsrc : FI T E X tgt iter src)
    (htg : ∀ cl C s₀ H₀ ex, FG T (blk X (x :: M') scope cl C s₀ H₀ ex) tgt tg)
    (hif : ∀ cl C s₀ H₀ ex, FIf T E00 (blk X (x :: M') scope cl C s₀ H₀ ex) ifs fi)
    (helt : ∀ cl C s₀ H₀ ex, FE T E00 (blk X (x :: M') scope cl C s₀ H₀ ex) elt fe)
    (hs : ∀ y, foldedSetIterable iter X.env y = pure y := by intro _; rfl)
    (hsw : swapsWith (.ListComp elt [⟨tgt, iter, ifs, 0⟩] scope pos) (some (.Name y py)) spos.line X.env = pure true := by rfl)
    (hf : X.fn y = true ∨ X.env.scope.names.lookup y = some .local := by first | exact .inl rfl | exact .inr rfl | assumption) :
    FS T E X (.Assign [.Name y py] (.ListComp elt [⟨tgt, iter, ifs, 0⟩] scope pos) spos) (sSet i (eLC src ix tg fi fe)) := by
  intro pins s st H D I h
  obtain ⟨μ, ρ, σ, hE, hr, hp0⟩ := h
  have hp : Post T E (Rep T) μ H (eLC src ix tg fi fe ρ σ) (fun v H1 => D.nx (st.set i (some v)) H1) := hp0.bind fun d σ1 μ1 v H1 _ e1 r1 q1 p1 => Post.here (g := Gl2.nx (st.set i (some v))) p1 r1 ((hE.mono e1).set i q1)
  rw [exec_Assign_Name_used _ _ _ _ hsw]
  refine wpAny_bind (wpAny_standAt (wpAny_bind ?_))
  show wpAny _ X.A (do let _ ← comprehension (.ListComp elt [⟨tgt, iter, ifs, 0⟩] scope pos) scope X.env _ (newList []) false (eval iter X.env) (some (assign (.Name y py) X.env))) _ _ s
  refine wpAny_bind (wpAny_mono (wpAny_comprehension_free (use := some (assign (.Name y py) X.env)) (Q := fun _ s' => SP X pins D .next s') rfl hs (closure_is X.env scope (clos_of I L)) L.kind (fun y hy e => ?_)
    ?_) (fun _ s' hq => wpAny_pure (wpAny_pure hq)) fun _ _ e => e)
  · have q := List.all_eq_true.mp L.names y hy
    rw [e] at q
    simp only [beq_self_eq_true, Bool.not_true, Bool.false_or] at q
    exact eq_of_beq q
  have h1 := hsrc pins s st H (fun J H2 => ∃ nx μ2 σ2, Ext μ H μ2 H2 ∧ Rel T μ2 H2 σ2 ∧ SrcOk T μ2 H2 nx J ∧ Post T E (Rep T) μ2 H2 (bnd (lcLoop nx σ2.length tg fi fe 1001 0 (blkEv ix ρ)) (fun _ => ret (.ref σ2.length)) (σ2 ++ [.lst []])) (fun v H1 => D.nx (st.set i (some v)) H1)) I
    ⟨μ, ρ, σ, hE, hr, hp.bind fun nx σ1 μ1 J H1 _ e1 r1 q1 p1 => ⟨nx, μ1, σ1, e1, r1, q1, p1⟩⟩
  refine thn h1 fun v s1 h2 => thn h2 fun itv s2 h3 => ?_
  obtain ⟨it, fp, tn, J, H2, rfl, I2, TT, st2, f2, nx, μ2, σ2, ex2, r2, so, p2⟩ := h3
  refine wpAny_newObj_type (wpAny_newFunctionEnv (nocell L) (by intro y hy; simp at hy) (fun h₁ hns₁ hsb₁ => ?_) L.kind)
  have I3 := I2.lnew (ys := []) (its := []) (t' := s2.toks) .nil (by simp)
  have fr2 : H2 s2.heap.objs.size = none := I2.hok.fresh (Nat.le_refl _)
  have r3 := r2.push (p := s2.heap.objs.size) (o := .lst []) (ob := .lst []) fr2 ⟨[], upd_same, RepL.nil⟩
  have ex3 : Ext μ2 H2 (μ2 ++ [s2.heap.objs.size]) (upd H2 s2.heap.objs.size (.lst [])) := ext_push fr2
  have hsz : s2.heap.objs.size < (s2.heap.push { cls := .type "list", data := .seq ([] : List Value).toArray }).objs.size := by rw [Heap.size_push]; exact Nat.lt_succ_self _
  have kp : ∀ b o, (s2.heap.push { cls := .type "list", data := .seq ([] : List Value).toArray }).get? b = some o → h₁.get? b = some o := fun b o e => hsb₁.extBut b o (Nat.ne_of_lt (Heap.lt_size e)) (Heap.get?_push_of_some _ e)
  have hfp : ∀ b ∈ fp, FpOk X pins (upd H2 s2.heap.objs.size (.lst [])) b ∧ b < (s2.heap.push { cls := .type "list", data := .seq ([] : List Value).toArray }).objs.size := fun b hb => by
    obtain ⟨o, e, _⟩ := TT.obj 0 _ st2 b hb
    have lt := Heap.lt_size e
    exact ⟨⟨by rw [upd_ne (Nat.ne_of_lt lt)]; exact (f2 b hb).1, (f2 b hb).2⟩, Nat.lt_trans lt hsz⟩
  refine lc_core (s3 := { s2 with heap := s2.heap.push { cls := .type "list", data := .seq ([] : List Value).toArray }, toks := s2.toks }) (n := σ2.length) (D0 := s2.heap.objs.size) hc L htg hif helt I3 hfp hns₁ kp TT (TT.keep 0 _ _ st2 fun b hb o e => kp b o (Heap.get?_push_of_some _ e))
    (fun μ H σ i ex r => so μ H σ i (ex3.trans ex) r) ((hE.mono ex2).mono ex3) r3 (by rw [← r2.len]; simp) (p2.mono ex3) (fun s6 H' m6 hm6 hC' hu0 hos hok6 hb6 hq => ?_)
  have I6 := L2.Inv.call' (s' := s6) (ch := fp) I3 hos hu0 hok6 hb6 (fun b hb => ⟨(hfp b hb).1.2.2.2.1, (hfp b hb).1.2.1, (hfp b hb).1.2.2.2.2.1, (hfp b hb).1.2.2.2.2.2⟩)
  have ltL : X.env.locals < (s2.heap.push { cls := .type "list", data := .seq ([] : List Value).toArray }).objs.size := I3.lt
  have ltC : ∀ z c, X.env.cells.lookup z = some c → c < (s2.heap.push { cls := .type "list", data := .seq ([] : List Value).toArray }).objs.size := fun z c e => by
    obtain ⟨v, q⟩ := I3.cell z c e; exact q.lt
  show wpAny _ X.A (assign (.Name y py) X.env (.ref s2.heap.objs.size)) _ _ s6
  refine wpAny_assign_Name (store_ok2 (v := .ref s2.heap.objs.size) I6 hN hi hx rfl (fun s7 I7 ⟨a, sb, ha⟩ => ?_) hf)
  have neC : a ≠ (s2.heap.push { cls := .type "list", data := .seq ([] : List Value).toArray }).objs.size := by
    rcases ha with rfl | ha
    · exact Nat.ne_of_lt ltL
    · exact Nat.ne_of_lt (ltC _ _ ha)
  refine ⟨m6, hm6.sameBut sb (Ne.symm neC), fun h8 hs8 => ?_⟩
  refine ⟨st.set i (some (.ref s2.heap.objs.size)), H', ?_, hq⟩
  exact I7.turned (t' := s7.toks) (it := (s2.heap.push { cls := .type "list", data := .seq ([] : List Value).toArray }).objs.size) (fun b o hb e => (hs8.2 b hb).trans e) hC' (Nat.ne_of_gt ltL) (.inr (Nat.le_trans I3.sz (Nat.le_refl _))) (fun z c e => Nat.ne_of_lt (ltC z c e)) (fun p hp => Nat.ne_of_lt (Heap.lt_size (I3.pin p hp).1))
end
end L3

namespace L3
open PySem PySem.Spec PyProof.Rows L2

/-! ### + of ints, tuples, lists -/
def oAdd (x y : D) : M D := fun σ => match x, y with
  | .int i, .int j => .ok (.int (i + j)) σ
  | .tup xs, .tup ys => if xs.length + ys.length ≤ cap then .ok (.tup (xs ++ ys)) σ else .bad
  | .ref n, .ref m => (match lstAt σ n, lstAt σ m with
    | some xs, some ys => if xs.length + ys.length ≤ cap then mkLst (xs ++ ys) σ else .bad
    | _, _ => .bad)
  | _, _ => .bad
section
variable {T : Tb} {E : XK} {X : Cx} {a b c : Expr} {fa fb fc : Ev → M D} {pos : Pos}
theorem cat_tup0 {prog : Program} {w : World} {A : Around} {F : Value → Shared → Prop} {s : Shared} {t b : Addr} {ws : List Value} {Q : Value → Shared → Prop} (ht : IsTup s.heap t (#[] : Array Value)) (hb : IsTup s.heap b ws.toArray) (h1 : Q (.ref b) s) : wpAny (model prog w) A (binaryOp .Add (.ref t) (.ref b)) Q F s := by
  obtain ⟨⟨cls, dd, data, sl⟩, ho, hc, n, hd⟩ := id ht
  obtain ⟨⟨cls2, dd2, data2, sl2⟩, ho2, hc2, n2, hd2⟩ := id hb
  simp only at hc hd hc2 hd2
  subst hc hd hc2 hd2
  exact concat_meets ⟨_, ho, rfl⟩ ⟨_, ho2, rfl⟩ noFill_tuple_add seq_tuple_add PySem.F.slot_tuple_add PySem.F.entry_tuple_add (PySem.F.args_tuple_add_2 _ _)
    (tuple_addW0 t b #[] ws.toArray n n2 dd dd2 sl sl2 rfl) ⟨ho, ho2, h1⟩
theorem op_addD (hK : T.K = X.K) : OpR X (binaryOp .Add) (rD T E oAdd) := by
  intro pins s st H v u v' u' Q I rv ru h
  obtain ⟨μ, σ, x, y, r, hx, hy, hp⟩ := h
  unfold oAdd at hp
  cases x with
  | int i =>
    cases y with
    | int j => exact op_add pins s st H v u v' u' Q I rv ru ⟨i, j, int_of hx, int_of hy, Post.here hp r (by rw [Rep])⟩
    | _ => exact hp.elim
  | tup xs =>
    cases y with
    | tup ys =>
      dsimp only at hp
      by_cases hc : xs.length + ys.length ≤ cap
      · rw [if_pos hc] at hp
        have hx0 := hx
        have hy0 := hy
        rw [Rep] at hx hy
        obtain ⟨p, vs, rfl, h1, h2⟩ := hx
        obtain ⟨q, ws, rfl, h3, h4⟩ := hy
        cases vs with
        | nil =>
          have e0 : xs = [] := by have := h2.length; simpa using this
          subst e0
          cases rv; cases ru
          obtain ⟨its, q1, t1, _⟩ := L2.Inv.tuple I (SqT.of (K := X.K) h1)
          obtain ⟨its2, q2, t2, _⟩ := L2.Inv.tuple I (SqT.of (K := X.K) h3)
          cases q1
          exact cat_tup0 t1 t2 ⟨.ref q, H, I, rfl, Post.here hp r (by simpa using hy0)⟩
        | cons v0 vr =>
          refine op_catT pins s st H _ _ v' u' Q I rv ru ⟨p, q, _, ws, rfl, rfl, SqT.of h1, SqT.of h3, by simp, ?_, fun e => ?_, fun e l hl => ?_⟩
          · rw [← h2.length, ← h4.length]; exact cap_le hc
          · subst e
            have e0 : ys = [] := by have := h4.length; simpa using this
            subst e0
            exact Post.here hp r (by simpa using hx0)
          · exact new_tup hp r (RepL.append h2 h4) hl
      · rw [if_neg hc] at hp; exact hp.elim
    | _ => exact hp.elim
  | ref n =>
    cases y with
    | ref m =>
      dsimp only at hp
      cases e1 : lstAt σ n with
      | none => rw [e1] at hp; exact hp.elim
      | some xs =>
        cases e2 : lstAt σ m with
        | none => rw [e1, e2] at hp; exact hp.elim
        | some ys =>
          rw [e1, e2] at hp
          dsimp only at hp
          by_cases hc : xs.length + ys.length ≤ cap
          · rw [if_pos hc] at hp
            obtain ⟨p, vs, rfl, _, h1, h2⟩ := r.lst hx e1
            obtain ⟨q, ws, rfl, _, h3, h4⟩ := r.lst hy e2
            exact op_cat pins s st H _ _ v' u' Q I rv ru ⟨p, q, vs, ws, rfl, rfl, h1, h3, by rw [← h2.length, ← h4.length]; exact cap_le hc, fun l hl => new_lst hp r (RepL.append h2 h4) hl⟩
          · rw [if_neg hc] at hp; exact hp.elim
    | _ => exact hp.elim
  | _ => exact hp.elim

/-! ### a op b op c -/
def eChain (o o' : D → D → M D) (a b c : Ev → M D) : Ev → M D := fun ρ => bnd (a ρ) fun x => bnd (b ρ) fun y => bnd (o x y) fun z => bnd (tst z) fun k => if k = true then bnd (c ρ) fun w => o' y w else ret (.bl false)
theorem fe_chain {op op' : CmpOp} {r r' : R2} {o o' : D → D → M D} (ho : OpR X (compareOp op) r) (hs : SndOp T E r o) (ho' : OpR X (compareOp op') r') (hs' : SndOp T E r' o') (ha : FE T E X a fa) (hb : FE T E X b fb) (hc : FE T E X c fc)
    (hm : lastMarks [op, op'] [b, c] = false := by with_unfolding_all rfl) : FE T E X (.Compare a [op, op'] [b, c] pos) (eChain o o' fa fb fc) := by
  intro pins s st H Q I h
  refine pe_chain ho ho' ha hb hc hm pins s st H Q I ?_
  obtain ⟨μ, ρ, σ, hE, hr, hp⟩ := h
  refine ⟨μ, ρ, σ, hE, hr, hp.bind fun x σ1 μ1 v H1 _ e1 r1 q1 p1 => ⟨μ1, ρ, σ1, hE.mono e1, r1, p1.bind fun y σ2 μ2 w H2 _ e2 r2 q2 p2 => ?_⟩⟩
  refine hs μ2 H2 σ2 x y v w _ r2 (Rep.mono e2 _ _ q1) q2 (p2.bind fun z σ3 μ3 u H3 _ e3 r3 q3 p3 => ?_)
  obtain ⟨k, rfl, ev, p4⟩ := tst_bl q3 p3
  refine ⟨k, ev, ?_⟩
  cases k with
  | true =>
    rw [if_pos rfl] at p4 ⊢
    exact ⟨μ3, ρ, σ3, ((hE.mono e1).mono e2).mono e3, r3, p4.bind fun z σ5 μ5 u5 H5 _ e5 r5 q5 p5 => hs' μ5 H5 σ5 y z w u5 Q r5 (Rep.mono e5 _ _ (Rep.mono e3 _ _ q2)) q5 p5⟩
  | false => rw [if_neg Bool.false_ne_true] at p4 ⊢; exact Post.here p4 r3 (by rw [Rep])
theorem hu9 {k : Nat} {A : Around} (hr : Room k A) : A.units + 9 < cLine := by have := hr.un; omega
end
end L3

namespace L3
open PySem PySem.Spec PyProof.Rows L2

/-! ### the text's defs -/
def HasFn (K : PySem.W.Frag) (mg : Str → Option Value) (x : Str) (st : Stmt) (ps : List Str) : Prop :=
  ∃ f fd, mg x = some (.ref f) ∧ Fun K x x st f fd ∧ ∀ us : List Value, us.length = ps.length → bindArgs fd ⟨us, []⟩ = pure (ps.zip us)
def OkF (T : Tb) (P : Program) (w : World) (mg : Str → Option Value) (base : Heap) (k : Nat) (x : Str) (ps : List Str) (fn : List D → M D) : Prop :=
  ∃ f fd, mg x = some (.ref f) ∧ PySem.W.keepIn T.K (.ref f) = true ∧ (∀ us : List Value, us.length = ps.length → bindArgs fd ⟨us, []⟩ = pure (ps.zip us)) ∧ FnOk P w T.K mg base CX0 k f fd ps (spF T ps.length fn)
section
variable {T : Tb} {E : XK} {X : Cx}
theorem fe_callO {k : Nat} {ps : List Str} {fn : List D → M D} {x : Str} {p pos : Pos} {e : Expr} {es : List Expr} {fs : Ev → M (List D)} (h : OkF T X.prog X.w X.mg X.base k x ps fn) (hK : T.K = X.K) (hr : Room k X.A) (hg : Gl X x)
    (ha : FA T E X (e :: es) fs) (hdb : (x == ("__debug__" : Str)) = false := by decide) (he : starEach (e :: es) X.env = (false, eval e X.env) :: starEach es X.env := by rfl) (hpl : (backTo pos (starEach es X.env)).any (·.1) = false := by rfl) :
    FE T E X (.Call (.Name x p) (e :: es) [] pos) (eFn ps.length fn [] fs) := by
  obtain ⟨f, fd, hm, hk, hb, hF⟩ := h
  rw [hK] at hk hF
  exact fe_call (dds := []) (dvs := []) hF hr hg hm hk (.all hb) .nil (fun _ _ => RepL.nil) passA ha hdb he hpl
variable {P : Program} {w : World} {K : PySem.W.Frag} {mg : Str → Option Value} {base : Heap} {ca : Nat → Addr}
theorem ok_of {k : Nat} {x : Str} {st : Stmt} {ps N : List Str} {g : Ev → M Fl} (h : HasFn K mg x st ps) (S : FnScope N ps (defScope st))
    (hb : ∀ (f : Addr) (cdv : Value) (A : Around) (outer : List Env) (s : Shared) (H : Hp) (E : XK), Room k (A.deeper (envOfC x (defScope st) s.heap.objs.size f cdv)) → FSs ⟨K, ca⟩ E (cxOf CX0 P w K mg base N x (defScope st) f cdv A outer s H E).nox (defBody st) g) :
    OkF ⟨K, ca⟩ P w mg base (k + 1) x ps (run N.length g) := by
  obtain ⟨f, fd, hm, F, hbd⟩ := h
  exact ⟨f, fd, hm, F.kp, hbd, fok F S (hb f)⟩
def OkL (T : Tb) (P : Program) (w : World) (mg : Str → Option Value) (k : Nat) (x : Str) (ps : List Str) (fn : List D → M D) : Prop :=
  ∃ f fd, mg x = some (.ref f) ∧ (∀ us : List Value, us.length = ps.length → bindArgs fd ⟨us, []⟩ = pure (ps.zip us)) ∧ ∀ base : Heap, FnOk P w T.K mg base CX0 k f fd ps (spF T ps.length fn)
theorem ok_ofL {k : Nat} {x : Str} {st : Stmt} {ps N : List Str} {g : Ev → M Fl} (h : HasFn K mg x st ps) (S : FnScope N ps (defScope st))
    (hb : ∀ (base : Heap) (f : Addr) (cdv : Value) (A : Around) (outer : List Env) (s : Shared) (H : Hp) (E : XK), Room k (A.deeper (envOfC x (defScope st) s.heap.objs.size f cdv)) → FSs ⟨K, ca⟩ E (cxOf CX0 P w K mg base N x (defScope st) f cdv A outer s H E).nox (defBody st) g) :
    OkL ⟨K, ca⟩ P w mg (k + 1) x ps (run N.length g) := by
  obtain ⟨f, fd, hm, F, hbd⟩ := h
  exact ⟨f, fd, hm, hbd, fun base => fok F S (hb base f)⟩
theorem mkF {h : Heap} {x : Str} {st : Stmt} {ps : List Str} {f : Addr} {oc : Value} {od an : Option Addr} {osl : Array (Option Value)} {kV doc pm cdv ct : Value} (X : K.In h) (G : h.Ns mainGlobals mg)
    (hb : ∀ (kV doc pm : Value) (an : Option Addr) (cdv ct : Value) (us : List Value), us.length = ps.length → bindArgs (PySem.W.fnOf x x (defArgs st) (defBody st) (defScope st) .none kV doc pm an cdv ct) ⟨us, []⟩ = pure (ps.zip us))
    (a : PySem.W.nsIn K mainGlobals x = some (some (.ref f))) (l : K.lookup f = some ⟨oc, od, .func (PySem.W.fnOf x x (defArgs st) (defBody st) (defScope st) .none kV doc pm an cdv ct), osl⟩)
    (c : PySem.W.codeIn K cdv x = true) (k : PySem.W.keepIn K (.ref f) = true) : HasFn K mg x st ps :=
  ⟨f, _, PySem.W.mg_of X G a, fun_mk l c k, hb kV doc pm an cdv ct⟩
theorem mkI {h : Heap} {x : Str} {i : Int} {t : Tok} (X : K.In h) (G : h.Ns mainGlobals mg) (a : PySem.W.nsIn K mainGlobals x = some (some (.int i t))) : ∃ t, mg x = some (.int i t) := ⟨t, PySem.W.mg_of X G a⟩
end
/-- the law: from its data's answer -/
theorem scr_of {K : PySem.W.Frag} {H : Hp} {a : Addr} {ns : List Int} (hO : Only H) (h : SqL K H a (ns.map V.int)) : Scr K H a ns := by
  rcases h with (h | ⟨o, h⟩) | h
  · rcases hO a with z | ⟨o, xs, z⟩
    · rw [z] at h; cases h
    · rw [z] at h; cases h
  · exact .inl ⟨o, h⟩
  · exact .inr h
theorem law_sp {T : Tb} {H : Hp} {a : Addr} {ns : List Int} {fn : List D → M D} {σ : Sto} (hO : Only H) (h : SqL T.K H a (ns.map V.int)) (e : fn [.scr ns] [] = .ok (.bl true) σ) : spF T 1 fn [.ref a] H (fun v _ => v = .bl true) fun _ _ _ => False := by
  refine ⟨[], [], [.scr ns], RepL.cons (by rw [Rep]; exact ⟨a, rfl, scr_of hO h⟩) RepL.nil, rfl, ⟨rfl, List.nodup_nil, fun n o q => by simp at q⟩, ?_⟩
  rw [e]
  intro μ' v H' _ _ r
  rw [Rep] at r; exact r
theorem walkL {l : PySem.W.OpenLaw} {q : Program} {loose : List Str} {XP : (Str → Option Value) → Heap → Prop} {YP : World → Heap → Prop} {d : DefRec} {K : Params → PySem.W.Frag} {ca : Nat → Addr} {k : Nat} {x : Str} {fn : List D → M D}
    (hn : l.most = some 63) (hdf : d.params.defaults = []) (hr : Room k callerA) (hY : ∀ (w : World) (h : Heap), YP w h → (K w.params).In h)
    (F : ∀ (w : World) (mg : Str → Option Value) (h : Heap), (K w.params).In h → h.Ns mainGlobals mg → OkL ⟨K w.params, ca⟩ l.prog w mg k d.name [x] fn)
    (tr : ∀ ns : List Int, ns.length ≤ 63 → ∃ σ, fn [.scr ns] [] = .ok (.bl true) σ) :
    PySem.W.WalkO q loose XP YP l.row.toRowW d [] (fun f vs => PySem.call f vs) := by
  refine L2.walk_of (n := 63) (k := k) (x := x) (CX := fun _ => CX0) (sp := fun w => spF ⟨K w.params, ca⟩ 1 fn) hn (by decide) hdf hr hY (fun w mg fa h KX G hmg => ?_) (fun w H a ns hl hO hS => ?_) (fun _ _ _ _ _ z => z)
  · obtain ⟨f, fd, h1, h3, h4⟩ := F w mg h KX G
    rw [hmg] at h1; cases h1
    exact ⟨fd, fun s u => .of_eq (h3 [u] rfl), fun base _ _ => h4 base⟩
  · obtain ⟨σ, e⟩ := tr ns hl
    exact law_sp hO hS e
end L3

/-! Reckoning with the data's functions: a value that no store changes, the store only growing. -/
namespace L3
open PySem L2

/-- what stays true of a growing store -/
def Stab (I : Sto → Prop) : Prop := ∀ σ j, I σ → I (σ ++ j)
/-- m gives a, whatever the store (where I holds of it); the store grows -/
def Pu {α : Type} (I : Sto → Prop) (m : M α) (a : α) : Prop := ∀ σ, I σ → ∃ j, m σ = .ok a (σ ++ j)
/-- m gives a list of these items -/
def PuL (I : Sto → Prop) (m : M D) (ds : List D) : Prop := ∀ σ, I σ → ∃ j n, m σ = .ok (.ref n) (σ ++ j) ∧ lstAt (σ ++ j) n = some ds
theorem lstAt_app {σ j : Sto} {n : Nat} {ds : List D} (h : lstAt σ n = some ds) : lstAt (σ ++ j) n = some ds := by
  have e := lstAt_some h
  have hl := (List.getElem?_eq_some_iff.mp e).1
  unfold lstAt
  rw [List.getElem?_append_left hl, e]
theorem lstAt_end (σ : Sto) (ds : List D) : lstAt (σ ++ [.lst ds]) σ.length = some ds := by simp [lstAt]
theorem lstAt_mid (σ j : Sto) (ds : List D) : lstAt (σ ++ [.lst ds] ++ j) σ.length = some ds := lstAt_app (lstAt_end σ ds)
theorem stab_lst (n : Nat) (ds : List D) : Stab fun σ => lstAt σ n = some ds := fun _ _ h => lstAt_app h
theorem stab_T : Stab fun _ => True := fun _ _ _ => trivial
theorem stab_and {I J : Sto → Prop} (h : Stab I) (h' : Stab J) : Stab fun σ => I σ ∧ J σ := fun σ j q => ⟨h σ j q.1, h' σ j q.2⟩
section
variable {I : Sto → Prop} {α β : Type} {ρ : Ev}
theorem Pu.mono {J : Sto → Prop} {m : M α} {a : α} (h : Pu I m a) (k : ∀ σ, J σ → I σ) : Pu J m a := fun σ hσ => h σ (k σ hσ)
theorem Pu.ret {a : α} : Pu I (ret a) a := fun σ _ => ⟨[], by simp [L3.ret]⟩
theorem Pu.bnd (hI : Stab I) {m : M α} {k : α → M β} {a : α} {b : β} (h : Pu I m a) (h' : Pu I (k a) b) : Pu I (bnd m k) b := fun σ hσ => by
  obtain ⟨j, e⟩ := h σ hσ
  obtain ⟨j', e'⟩ := h' (σ ++ j) (hI _ _ hσ)
  exact ⟨j ++ j', by unfold L3.bnd; rw [e]; simpa using e'⟩
theorem Pu.var {i : Nat} {d : D} (h : ρ[i]? = some (some d)) : Pu I (eVar i ρ) d := fun σ _ => ⟨[], by unfold eVar; rw [h]; simp⟩
theorem Pu.c {d : D} : Pu I (eC d ρ) d := Pu.ret
theorem Pu.bin (hI : Stab I) {o : D → D → M D} {a b : Ev → M D} {x y z : D} (ha : Pu I (a ρ) x) (hb : Pu I (b ρ) y) (ho : Pu I (o x y) z) : Pu I (eBin o a b ρ) z := ha.bnd hI (hb.bnd hI ho)
theorem Pu.un (hI : Stab I) {o : D → M D} {a : Ev → M D} {x z : D} (ha : Pu I (a ρ) x) (ho : Pu I (o x) z) : Pu I (eUn o a ρ) z := ha.bnd hI ho
theorem Pu.int {g : Int → Int → Int} {i j : Int} : Pu I (oI g (.int i) (.int j)) (.int (g i j)) := Pu.ret
theorem Pu.intB {g : Int → Int → Bool} {i j : Int} : Pu I (oB g (.int i) (.int j)) (.bl (g i j)) := Pu.ret
theorem Pu.intC {C : Int → Int → Bool} {g : Int → Int → Int} {i j : Int} (h : C i j = true) : Pu I (oIC C g (.int i) (.int j)) (.int (g i j)) := by
  have e : oIC C g (.int i) (.int j) = L3.ret (.int (g i j)) := by show (if C i j = true then _ else _) = _; rw [if_pos h]
  rw [e]; exact Pu.ret
theorem Pu.div {i j : Int} (h : 0 < j) (h2 : j < 1073741824) : Pu I (oDiv (.int i) (.int j)) (.int (i / j)) := Pu.intC (by simp [cDiv, h, h2])
theorem Pu.mod {i j : Int} (h : 0 < j) : Pu I (oMod (.int i) (.int j)) (.int (i % j)) := Pu.intC (by simp [cMod, h])
theorem Pu.mulL {i j : Int} (h : -(2 ^ 64) < i) (h2 : i < 2 ^ 64) : Pu I (oMul (.int i) (.int j)) (.int (i * j)) := Pu.intC (by simp only [cMul, Bool.or_eq_true, Bool.and_eq_true, decide_eq_true_eq]; exact .inl ⟨h, h2⟩)
theorem Pu.mulR {i j : Int} (h : -(2 ^ 64) < j) (h2 : j < 2 ^ 64) : Pu I (oMul (.int i) (.int j)) (.int (i * j)) := Pu.intC (by simp only [cMul, Bool.or_eq_true, Bool.and_eq_true, decide_eq_true_eq]; exact .inr ⟨h, h2⟩)
theorem Pu.shr {i j : Int} (h : 0 ≤ j) : Pu I (oShr (.int i) (.int j)) (.int (i / 2 ^ j.toNat)) := Pu.intC (by simp [cShr, h])
theorem Pu.pow {i j : Int} (h : cPow i j = true) : Pu I (oPow (.int i) (.int j)) (.int (i ^ j.toNat)) := Pu.intC h
theorem Pu.add {i j : Int} : Pu I (oAdd (.int i) (.int j)) (.int (i + j)) := fun σ _ => ⟨[], by simp [oAdd]⟩
theorem Pu.eqI {i j : Int} : Pu I (oEq (.int i) (.int j)) (.bl (i == j)) := fun σ _ => ⟨[], by simp [oEq, eqS, sc, eqV]⟩
theorem Pu.eT (hI : Stab I) {f : Ev → M D} {b : Bool} (h : Pu I (f ρ) (.bl b)) : Pu I (eT f ρ) b := h.bnd hI Pu.ret
theorem Pu.not (hI : Stab I) {f : Ev → M Bool} {b : Bool} (h : Pu I (f ρ) b) : Pu I (bNot f ρ) (!b) := h.bnd hI Pu.ret
theorem Pu.sifT (hI : Stab I) {t : Ev → M Bool} {a b : Ev → M Fl} {x : Fl} (h : Pu I (t ρ) true) (h' : Pu I (a ρ) x) : Pu I (sIf t a b ρ) x := h.bnd hI (by simpa using h')
theorem Pu.sifF (hI : Stab I) {t : Ev → M Bool} {a b : Ev → M Fl} {x : Fl} (h : Pu I (t ρ) false) (h' : Pu I (b ρ) x) : Pu I (sIf t a b ρ) x := h.bnd hI (by simpa using h')
theorem Pu.seq (hI : Stab I) {g h : Ev → M Fl} {ρ' : Ev} {x : Fl} (h1 : Pu I (g ρ) (.nx ρ')) (h2 : Pu I (h ρ') x) : Pu I (sSeq g h ρ) x := h1.bnd hI h2
theorem Pu.seqR (hI : Stab I) {g h : Ev → M Fl} {d : D} (h1 : Pu I (g ρ) (.rt d)) : Pu I (sSeq g h ρ) (.rt d) := h1.bnd hI Pu.ret
theorem Pu.nil : Pu I (sNil ρ) (.nx ρ) := Pu.ret
theorem Pu.sret (hI : Stab I) {f : Ev → M D} {d : D} (h : Pu I (f ρ) d) : Pu I (sRet f ρ) (.rt d) := h.bnd hI Pu.ret
theorem Pu.set (hI : Stab I) {i : Nat} {f : Ev → M D} {d : D} (h : Pu I (f ρ) d) : Pu I (sSet i f ρ) (.nx (ρ.set i (some d))) := h.bnd hI Pu.ret
theorem Pu.anil : Pu I (aNil ρ) [] := Pu.ret
theorem Pu.acons (hI : Stab I) {e : Ev → M D} {r : Ev → M (List D)} {x : D} {xs : List D} (h : Pu I (e ρ) x) (h' : Pu I (r ρ) xs) : Pu I (aCons e r ρ) (x :: xs) := h.bnd hI (h'.bnd hI Pu.ret)
theorem Pu.tup (hI : Stab I) {a : Ev → M (List D)} {ds : List D} (h : Pu I (a ρ) ds) (hl : ds.length ≤ cap) : Pu I (eTup a ρ) (.tup ds) := h.bnd hI (by simp only [hl, if_true]; exact Pu.ret)
theorem Pu.fn (hI : Stab I) {n : Nat} {f : List D → M D} {fs : Ev → M (List D)} {ds : List D} {d : D} (h : Pu I (fs ρ) ds) (hn : ds.length = n) (h' : Pu I (f ds) d) : Pu I (eFn n f [] fs ρ) d := h.bnd hI (by simp only [List.append_nil, hn, if_true]; exact h')
theorem Pu.run (hI : Stab I) {n : Nat} {g : Ev → M Fl} {ds : List D} {d : D} (h : Pu I (g (ds.map some ++ List.replicate (n - ds.length) none)) (.rt d)) : Pu I (L3.run n g ds) d := h.bnd hI Pu.ret
theorem Pu.ifT (hI : Stab I) {t : Ev → M Bool} {a b : Ev → M D} {x : D} (h : Pu I (t ρ) true) (h' : Pu I (a ρ) x) : Pu I (eIf t a b ρ) x := h.bnd hI (by simpa using h')
theorem Pu.ifF (hI : Stab I) {t : Ev → M Bool} {a b : Ev → M D} {x : D} (h : Pu I (t ρ) false) (h' : Pu I (b ρ) x) : Pu I (eIf t a b ρ) x := h.bnd hI (by simpa using h')
theorem Pu.ixT (hI : Stab I) {a b : Ev → M D} {xs : List D} {k : Int} {d : D} (h : Pu I (a ρ) (.tup xs)) (h' : Pu I (b ρ) (.int k)) (e : atI xs k = some d) : Pu I (eBin oIx a b ρ) d :=
  h.bin hI h' fun σ _ => ⟨[], by simp [oIx, seqOf, e]⟩
theorem Pu.ixS (hI : Stab I) {a b : Ev → M D} {ns : List Int} {k : Int} {d : D} (h : Pu I (a ρ) (.scr ns)) (h' : Pu I (b ρ) (.int k)) (e : atI (ns.map D.int) k = some d) : Pu I (eBin oIx a b ρ) d :=
  h.bin hI h' fun σ _ => ⟨[], by simp [oIx, seqOf, e]⟩
/-! lists -/
theorem PuL.lst (hI : Stab I) {a : Ev → M (List D)} {ds : List D} (h : Pu I (a ρ) ds) (hl : ds.length ≤ cap) : PuL I (eLst a ρ) ds := fun σ hσ => by
  obtain ⟨j, e⟩ := h σ hσ
  refine ⟨j ++ [.lst ds], (σ ++ j).length, ?_, ?_⟩
  · unfold eLst L3.bnd; rw [e]; simp only [hl, if_true, mkLst]; simp
  · rw [← List.append_assoc]; exact lstAt_end _ _
theorem PuL.var {i n : Nat} {ds : List D} (h : ρ[i]? = some (some (.ref n))) (k : ∀ σ, I σ → lstAt σ n = some ds) : PuL I (eVar i ρ) ds := fun σ hσ => ⟨[], n, by unfold eVar; rw [h]; simp, by simpa using k σ hσ⟩
theorem PuL.add (hI : Stab I) {a b : Ev → M D} {xs ys : List D} (h : PuL I (a ρ) xs) (h' : PuL I (b ρ) ys) (hl : xs.length + ys.length ≤ cap) : PuL I (eBin oAdd a b ρ) (xs ++ ys) := fun σ hσ => by
  obtain ⟨j, n, e, q⟩ := h σ hσ
  obtain ⟨j', n', e', q'⟩ := h' (σ ++ j) (hI _ _ hσ)
  refine ⟨j ++ j' ++ [.lst (xs ++ ys)], (σ ++ j ++ j').length, ?_, ?_⟩
  · unfold eBin L3.bnd; rw [e]; dsimp only; rw [e']; simp only [oAdd, lstAt_app q, q', hl, if_true, mkLst]; simp
  · have : σ ++ (j ++ j' ++ [.lst (xs ++ ys)]) = (σ ++ j ++ j') ++ [.lst (xs ++ ys)] := by simp
    rw [this]; exact lstAt_end _ _
theorem PuL.ix (hI : Stab I) {a b : Ev → M D} {xs : List D} {k : Int} {d : D} (h : PuL I (a ρ) xs) (h' : Pu I (b ρ) (.int k)) (e : atI xs k = some d) : Pu I (eBin oIx a b ρ) d := fun σ hσ => by
  obtain ⟨j, n, e1, q⟩ := h σ hσ
  obtain ⟨j', e'⟩ := h' (σ ++ j) (hI _ _ hσ)
  refine ⟨j ++ j', ?_⟩
  unfold eBin L3.bnd; rw [e1]; dsimp only; rw [e']; simp only [oIx, seqOf, lstAt_app q, e]; simp
theorem PuL.len (hI : Stab I) {a : Ev → M D} {xs : List D} (h : PuL I (a ρ) xs) : Pu I (eCall oLen (aCons a aNil) ρ) (.int xs.length) := fun σ hσ => by
  obtain ⟨j, n, e1, q⟩ := h σ hσ
  refine ⟨j, ?_⟩
  unfold eCall aCons aNil L3.bnd; rw [e1]; simp only [L3.ret, oLen, seqOf, q]
theorem Pu.lenT (hI : Stab I) {a : Ev → M D} {xs : List D} (h : Pu I (a ρ) (.tup xs)) : Pu I (eCall oLen (aCons a aNil) ρ) (.int xs.length) :=
  (h.acons hI Pu.anil).bnd hI fun σ _ => ⟨[], by simp [oLen, seqOf]⟩
theorem Pu.lenS (hI : Stab I) {a : Ev → M D} {ns : List Int} (h : Pu I (a ρ) (.scr ns)) : Pu I (eCall oLen (aCons a aNil) ρ) (.int ns.length) :=
  (h.acons hI Pu.anil).bnd hI fun σ _ => ⟨[], by simp [oLen, seqOf]⟩
theorem PuL.tuple (hI : Stab I) {a : Ev → M D} {xs : List D} (h : PuL I (a ρ) xs) : Pu I (eCall oTuple (aCons a aNil) ρ) (.tup xs) := fun σ hσ => by
  obtain ⟨j, n, e1, q⟩ := h σ hσ
  refine ⟨j, ?_⟩
  unfold eCall aCons aNil L3.bnd; rw [e1]; simp only [L3.ret, oTuple, seqOf, q]
theorem PuL.list (hI : Stab I) {a : Ev → M D} {xs : List D} (h : PuL I (a ρ) xs) : PuL I (eCall oList (aCons a aNil) ρ) xs := fun σ hσ => by
  obtain ⟨j, n, e1, q⟩ := h σ hσ
  refine ⟨j ++ [.lst xs], (σ ++ j).length, ?_, ?_⟩
  · unfold eCall aCons aNil L3.bnd; rw [e1]; simp only [L3.ret, oList, seqOf, q, mkLst]; simp
  · rw [← List.append_assoc]; exact lstAt_end _ _
/-! a comprehension -/
def lcAll {n : Nat} : Unit := ()
theorem set_mid (σ j : Sto) (a b : Ob) : (σ ++ [a] ++ j).set σ.length b = σ ++ [b] ++ j := by
  rw [List.append_assoc, List.append_assoc, List.set_append_right _ _ (Nat.le_refl _)]
  simp
theorem lc_go (hI : Stab I) {nx : Src} {tg : D → Ev → Option Ev} {fi : Ev → M Bool} {fe : Ev → M D} {ds : List D} (y : D → D) (p : D → Bool) (hnx : ∀ i σ, I σ → nx i σ = some ds[i]?) (Ok : Ev → Prop)
    (step : ∀ d ∈ ds, ∀ ρ, Ok ρ → ∃ ρ1, tg d ρ = some ρ1 ∧ Ok ρ1 ∧ Pu I (fi ρ1) (p d) ∧ (p d = true → Pu I (fe ρ1) (y d))) (hl : ds.length ≤ 1000) :
    ∀ (k i : Nat) (ρ : Ev) (σ0 j : Sto) (ys : List D), ds.length < k + i → i ≤ ds.length → Ok ρ → I σ0 → ys.length ≤ i →
      ∃ j', lcLoop nx σ0.length tg fi fe k i ρ (σ0 ++ [.lst ys] ++ j) = .ok () (σ0 ++ [.lst (ys ++ ((ds.drop i).filter p).map y)] ++ j') := by
  intro k
  induction k with
  | zero => intro i ρ σ0 j ys h1 h2; omega
  | succ k ih =>
    intro i ρ σ0 j ys h1 h2 hOk hσ hy
    have hσ' : I (σ0 ++ [.lst ys] ++ j) := hI _ _ (hI _ _ hσ)
    unfold lcLoop
    rw [hnx i _ hσ']
    cases e : ds[i]? with
    | none =>
      have hi : ds.length ≤ i := List.getElem?_eq_none_iff.mp e
      refine ⟨j, ?_⟩
      rw [List.drop_eq_nil_of_le hi]; simp
    | some d =>
      obtain ⟨hi, ed⟩ := List.getElem?_eq_some_iff.mp e
      have hd : ds.drop i = d :: ds.drop (i + 1) := by rw [← ed]; exact List.drop_eq_getElem_cons hi
      obtain ⟨ρ1, t1, o1, f1, f2⟩ := step d (by rw [← ed]; exact List.getElem_mem hi) ρ hOk
      simp only [t1]
      obtain ⟨j1, e1⟩ := f1 _ hσ'
      have e1' : nox (fi ρ1) (σ0 ++ [.lst ys] ++ j) = .ok (p d) (σ0 ++ [.lst ys] ++ (j ++ j1)) := by unfold nox; rw [e1]; simp
      unfold L3.bnd
      simp only [e1']
      by_cases hp : p d = true
      · have hσ2 : I (σ0 ++ [.lst ys] ++ (j ++ j1)) := hI _ _ (hI _ _ hσ)
        obtain ⟨j2, e2⟩ := f2 hp _ hσ2
        have e2' : nox (fe ρ1) (σ0 ++ [.lst ys] ++ (j ++ j1)) = .ok (y d) (σ0 ++ [.lst ys] ++ (j ++ j1 ++ j2)) := by unfold nox; rw [e2]; simp
        simp only [hp, if_true, L3.bnd, e2']
        have e3 : oAppend (.ref σ0.length) [y d] (σ0 ++ [.lst ys] ++ (j ++ j1 ++ j2)) = .ok .non (σ0 ++ [.lst (ys ++ [y d])] ++ (j ++ j1 ++ j2)) := by
          unfold oAppend
          simp only [lstAt_mid]
          rw [if_pos (by show ys.length < 1000; omega), set_mid]
        simp only [e3]
        obtain ⟨j', e4⟩ := ih (i + 1) ρ1 σ0 (j ++ j1 ++ j2) (ys ++ [y d]) (by omega) (by omega) o1 hσ (by simp; omega)
        refine ⟨j', ?_⟩
        rw [e4, hd, List.filter_cons, if_pos hp]; simp
      · simp only [hp]
        obtain ⟨j', e4⟩ := ih (i + 1) ρ1 σ0 (j ++ j1) ys (by omega) (by omega) o1 hσ (by omega)
        refine ⟨j', ?_⟩
        rw [hd, List.filter_cons, if_neg hp]
        exact e4
theorem PuL.lc (hI : Stab I) {src : Ev → M Src} {nx : Src} {ix : List Nat} {tg : D → Ev → Option Ev} {fi : Ev → M Bool} {fe : Ev → M D} {ds : List D} (y : D → D) (p : D → Bool) (hs : Pu I (src ρ) nx) (hnx : ∀ i σ, I σ → nx i σ = some ds[i]?) (Ok : Ev → Prop) (h0 : Ok (blkEv ix ρ))
    (step : ∀ d ∈ ds, ∀ ρ, Ok ρ → ∃ ρ1, tg d ρ = some ρ1 ∧ Ok ρ1 ∧ Pu I (fi ρ1) (p d) ∧ (p d = true → Pu I (fe ρ1) (y d))) (hl : ds.length ≤ 1000) : PuL I (eLC src ix tg fi fe ρ) ((ds.filter p).map y) := fun σ hσ => by
  obtain ⟨j, e⟩ := hs σ hσ
  obtain ⟨j', e'⟩ := lc_go hI y p hnx Ok step hl 1001 0 (blkEv ix ρ) (σ ++ j) [] [] (by omega) (by omega) h0 (hI _ _ hσ) (by simp)
  refine ⟨j ++ [.lst ((ds.filter p).map y)] ++ j', (σ ++ j).length, ?_, ?_⟩
  · unfold eLC L3.bnd
    simp only [e]
    have e2 : (σ ++ j) ++ [Ob.lst []] = (σ ++ j) ++ [.lst []] ++ [] := by simp
    rw [e2, e']
    simp [L3.ret]
  · have : σ ++ (j ++ [.lst ((ds.filter p).map y)] ++ j') = (σ ++ j) ++ [.lst ((ds.filter p).map y)] ++ j' := by simp
    rw [this]; exact lstAt_mid _ _ _
theorem Pu.srcT (hI : Stab I) {f : Ev → M D} {ds : List D} (h : Pu I (f ρ) (.tup ds)) : Pu I (srcT f ρ) (fun i _ => some ds[i]?) := h.bnd hI Pu.ret
theorem Pu.srcR (hI : Stab I) {f : Ev → M D} {n : Int} (h : Pu I (f ρ) (.int n)) (h1 : -(2 ^ 62) ≤ n) (h2 : n < 2 ^ 62) : Pu I (srcR f ρ) (fun i _ => some (if i < n.toNat then some (.int i) else none)) :=
  h.bnd hI (by simp only [h1, h2, decide_true, Bool.and_self, if_true]; exact Pu.ret)
end
section
variable {ρ ρ' : Ev} {σ σ' : Sto} {g h : Ev → M Fl} {t : Ev → M Bool} {f : Ev → M D} {tg : D → Ev → Option Ev}
theorem sSeq_nx (e : g ρ σ = .ok (.nx ρ') σ') : sSeq g h ρ σ = h ρ' σ' := by unfold sSeq L3.bnd; rw [e]
theorem sSeq_rt {d : D} (e : g ρ σ = .ok (.rt d) σ') : sSeq g h ρ σ = .ok (.rt d) σ' := by unfold sSeq L3.bnd; rw [e]; rfl
theorem sIf_t (e : t ρ σ = .ok true σ') : sIf t g h ρ σ = g ρ σ' := by unfold sIf L3.bnd; rw [e]; rfl
theorem sIf_f (e : t ρ σ = .ok false σ') : sIf t g h ρ σ = h ρ σ' := by unfold sIf L3.bnd; rw [e]; rfl
theorem sExp_ok {d : D} (e : f ρ σ = .ok d σ') : sExp f ρ σ = .ok (.nx ρ) σ' := by unfold sExp L3.bnd; rw [e]; rfl
theorem sSet_ok {i : Nat} {d : D} (e : f ρ σ = .ok d σ') : sSet i f ρ σ = .ok (.nx (ρ.set i (some d))) σ' := by unfold sSet L3.bnd; rw [e]; rfl
theorem sRet_ok {d : D} (e : f ρ σ = .ok d σ') : sRet f ρ σ = .ok (.rt d) σ' := by unfold sRet L3.bnd; rw [e]; rfl
theorem loop_nx {d : D} {ds : List D} {ρ1 : Ev} (ht : tg d ρ = some ρ1) (e : g ρ1 σ = .ok (.nx ρ') σ') : loop tg g (d :: ds) ρ σ = loop tg g ds ρ' σ' := by
  conv => lhs; unfold loop
  rw [ht]; dsimp only; unfold L3.bnd; rw [e]
theorem loop_rt {d d' : D} {ds : List D} {ρ1 : Ev} (ht : tg d ρ = some ρ1) (e : g ρ1 σ = .ok (.rt d') σ') : loop tg g (d :: ds) ρ σ = .ok (.rt d') σ' := by
  unfold loop
  rw [ht]; dsimp only; unfold L3.bnd; rw [e]; rfl
theorem sForR_ok {n : Int} (e : f ρ σ = .ok (.int n) σ') (h1 : -(2 ^ 62) ≤ n) (h2 : n < 2 ^ 62) : sForR f tg g ρ σ = loop tg g (rangeD n.toNat) ρ σ' := by
  unfold sForR L3.bnd; rw [e]; dsimp only; rw [if_pos (by simp only [Bool.and_eq_true, decide_eq_true_eq]; exact ⟨h1, h2⟩)]
theorem sForT_ok {ds : List D} (e : f ρ σ = .ok (.tup ds) σ') : sForT f tg g ρ σ = loop tg g ds ρ σ' := by unfold sForT L3.bnd; rw [e]
theorem run_rt {n : Nat} {ds : List D} {d : D} (e : g (ds.map some ++ List.replicate (n - ds.length) none) σ = .ok (.rt d) σ') : L3.run n g ds σ = .ok d σ' := by unfold L3.run L3.bnd; rw [e]; rfl
end
section
theorem rangeD_ix (n i : Nat) : (rangeD n)[i]? = if i < n then some (.int i) else none := by
  by_cases h : i < n
  · rw [if_pos h, rangeD_get h]
  · rw [if_neg h]; exact List.getElem?_eq_none_iff.mpr (by rw [rangeD_len]; omega)
end
end L3

set_option maxHeartbeats 4000000
namespace K05
open PySem PySem.Spec PyProof.Rows L2 L3

def top (i : Nat) : Stmt := PySem.Challenge.pw_sidebook_k05_what_a_stand_comes_to.main.body.getD i (.Pass ⟨0, 0, 0, 0⟩)

structure Txt (K : PySem.W.Frag) (mg : Str → Option Value) : Prop where
  f__law_cell_at : HasFn K mg "_law_cell_at" (top 6) ["_law_script", "_law_k"]
  f__law_share : HasFn K mg "_law_share" (top 9) ["_law_number"]
  f__law_mixed : HasFn K mg "_law_mixed" (top 7) ["_law_cell", "_law_k"]
  f__law_amount : HasFn K mg "_law_amount" (top 8) ["_law_number"]
  f__law_tie : HasFn K mg "_law_tie" (top 10) ["_law_cell", "_law_k", "_law_words"]
  f__law_ties : HasFn K mg "_law_ties" (top 11) ["_law_cell"]
  f__law_stand : HasFn K mg "_law_stand" (top 12) ["_law_number", "_law_cell"]
  f_other_side : HasFn K mg "other_side" (top 1) ["side"]
  f_with_more : HasFn K mg "with_more" (top 3) ["shares", "side", "amount"]
  f_comes_to : HasFn K mg "comes_to" (top 4) ["one", "words"]
  f_law : HasFn K mg "law" (top 13) ["_law_script"]
  n_bool : mg "bool" = none
  n_int : mg "int" = none
  n_isinstance : mg "isinstance" = none
  n_len : mg "len" = none
  n_list : mg "list" = none
  n_range : mg "range" = none
  n_tuple : mg "tuple" = none

section
variable {P : Program} {w : World} {K : PySem.W.Frag} {mg : Str → Option Value} {base : Heap} {ca : Nat → Addr}

abbrev s__law_cell_at : Stmt := top 6
def g__law_cell_at : Ev → M Fl :=
  (sSeq (sIf (eT (eBin oLt (eVar 1) (eCall oLen (aCons (eVar 0) aNil)))) (sRet (eBin oIx (eVar 0) (eVar 1))) sNil)
  (sRet (eC (.int 0))))
def f__law_cell_at : List D → M D := run 2 g__law_cell_at
theorem sc__law_cell_at : FnScope ["_law_script", "_law_k"] ["_law_script", "_law_k"] (defScope s__law_cell_at) := ⟨rfl, rfl, rfl, by decide +kernel, rfl, by decide +kernel, by decide +kernel⟩
theorem bd__law_cell_at : ∀ (kV doc pm : Value) (an : Option Addr) (cdv ct : Value) (us : List Value), us.length = (["_law_script", "_law_k"] : List Str).length → bindArgs (PySem.W.fnOf "_law_cell_at" "_law_cell_at" (defArgs s__law_cell_at) (defBody s__law_cell_at) (defScope s__law_cell_at) .none kV doc pm an cdv ct) ⟨us, []⟩ = pure ((["_law_script", "_law_k"] : List Str).zip us) :=
  fun _ _ _ _ _ _ us hl => match us, hl with | [_, _], _ => rfl
theorem ok__law_cell_at (Xt : Txt K mg) : OkF ⟨K, ca⟩ P w mg base 1 "_law_cell_at" ["_law_script", "_law_k"] f__law_cell_at :=
  ok_of Xt.f__law_cell_at sc__law_cell_at fun _ _ _ _ _ _ _ hr =>
    (fss_cons (fs_if (ft_cmp op_lt snd_lt (fe_var 1) (fe_callB call_len_seq (snd_len rfl) rfl Xt.n_len PySem.boot_len (fa_cons (fe_var 0) fa_nil)) (nomark _)) (fss_one (fs_ret (fe_ix ix_D (snd_ix rfl) (fe_var 0) (fe_var 1) (fun _ _ => rfl)))) fss_nil)
    (fss_one (fs_ret fe_int)))

abbrev s__law_share : Stmt := top 9
def g__law_share : Ev → M Fl :=
  (sRet (eBin oIx (eLst (aCons (eBin oMod (eBin oDiv (eVar 0) (eC (.int 4))) (eC (.int 50))) (aCons (eC (.int 0)) (aCons (eBin oMod (eBin oDiv (eVar 0) (eC (.int 4))) (eBin oPow (eC (.int 10)) (eC (.int 12)))) (aCons (eBin oMod (eBin oDiv (eVar 0) (eC (.int 4))) (eBin oPow (eC (.int 10)) (eC (.int 4)))) aNil))))) (eBin oMod (eVar 0) (eC (.int 4)))))
def f__law_share : List D → M D := run 1 g__law_share
theorem sc__law_share : FnScope ["_law_number"] ["_law_number"] (defScope s__law_share) := ⟨rfl, rfl, rfl, by decide +kernel, rfl, by decide +kernel, by decide +kernel⟩
theorem bd__law_share : ∀ (kV doc pm : Value) (an : Option Addr) (cdv ct : Value) (us : List Value), us.length = (["_law_number"] : List Str).length → bindArgs (PySem.W.fnOf "_law_share" "_law_share" (defArgs s__law_share) (defBody s__law_share) (defScope s__law_share) .none kV doc pm an cdv ct) ⟨us, []⟩ = pure ((["_law_number"] : List Str).zip us) :=
  fun _ _ _ _ _ _ us hl => match us, hl with | [_], _ => rfl
theorem ok__law_share (Xt : Txt K mg) : OkF ⟨K, ca⟩ P w mg base 1 "_law_share" ["_law_number"] f__law_share :=
  ok_of Xt.f__law_share sc__law_share fun _ _ _ _ _ _ _ hr =>
    (fss_one (fs_ret (fe_ix ix_D (snd_ix rfl) (fe_lst (fa_cons (fe_op op_mod snd_mod (fe_op op_fdiv snd_div (fe_var 0) fe_int) fe_int) (fa_cons fe_int (fa_cons (fe_op op_mod snd_mod (fe_op op_fdiv snd_div (fe_var 0) fe_int) (fe_op op_pow snd_pow fe_int fe_int)) (fa_cons (fe_op op_mod snd_mod (fe_op op_fdiv snd_div (fe_var 0) fe_int) (fe_op op_pow snd_pow fe_int fe_int)) fa_nil))))) (fe_op op_mod snd_mod (fe_var 0) fe_int) (fun _ _ => rfl))))

abbrev s__law_mixed : Stmt := top 7
def g__law_mixed : Ev → M Fl :=
  (sSeq (sIf (eT (eBin oEq (eBin oMod (eVar 0) (eC (.int 2))) (eC (.int 0)))) (sRet (eBin oBand (eBin oShr (eBin oDiv (eVar 0) (eC (.int 2))) (eBin oMul (eC (.int 41)) (eVar 1))) (eC (.int 2199023255551)))) sNil)
  (sSeq (sSet 2 (eBin oMod (eBin oMul (eBin oAdd (eBin oAdd (eBin oMod (eVar 0) (eC (.int 2147483647))) (eBin oMul (eC (.int 7919)) (eVar 1))) (eC (.int 1))) (eC (.int 48271))) (eC (.int 2147483647))))
  (sSeq (sSet 2 (eBin oMod (eBin oMul (eVar 2) (eBin oAdd (eBin oDiv (eVar 2) (eC (.int 1009))) (eC (.int 69621)))) (eC (.int 2147483647))))
  (sRet (eBin oMod (eBin oMul (eVar 2) (eBin oAdd (eBin oAdd (eBin oDiv (eVar 2) (eC (.int 4099))) (eC (.int 16807))) (eVar 1))) (eC (.int 2147483629)))))))
def f__law_mixed : List D → M D := run 3 g__law_mixed
theorem sc__law_mixed : FnScope ["_law_cell", "_law_k", "_law_number"] ["_law_cell", "_law_k"] (defScope s__law_mixed) := ⟨rfl, rfl, rfl, by decide +kernel, rfl, by decide +kernel, by decide +kernel⟩
theorem bd__law_mixed : ∀ (kV doc pm : Value) (an : Option Addr) (cdv ct : Value) (us : List Value), us.length = (["_law_cell", "_law_k"] : List Str).length → bindArgs (PySem.W.fnOf "_law_mixed" "_law_mixed" (defArgs s__law_mixed) (defBody s__law_mixed) (defScope s__law_mixed) .none kV doc pm an cdv ct) ⟨us, []⟩ = pure ((["_law_cell", "_law_k"] : List Str).zip us) :=
  fun _ _ _ _ _ _ us hl => match us, hl with | [_, _], _ => rfl
theorem ok__law_mixed (Xt : Txt K mg) : OkF ⟨K, ca⟩ P w mg base 1 "_law_mixed" ["_law_cell", "_law_k"] f__law_mixed :=
  ok_of Xt.f__law_mixed sc__law_mixed fun _ _ _ _ _ _ _ hr =>
    (fss_cons (fs_if (ft_cmp (op_eqD (hu9 hr)) sndD (fe_op op_mod snd_mod (fe_var 0) fe_int) fe_int (nomark _)) (fss_one (fs_ret (fe_op op_and snd_band (fe_op op_shr snd_shr (fe_op op_fdiv snd_div (fe_var 0) fe_int) (fe_op op_mul snd_mul fe_int (fe_var 1))) fe_int))) fss_nil)
    (fss_cons (fs_set (i := 2) sc__law_mixed.nd rfl (Or.inl rfl) (fe_op op_mod snd_mod (fe_op op_mul snd_mul (fe_op (op_addD rfl) sndD (fe_op (op_addD rfl) sndD (fe_op op_mod snd_mod (fe_var 0) fe_int) (fe_op op_mul snd_mul fe_int (fe_var 1))) fe_int) fe_int) fe_int))
    (fss_cons (fs_set (i := 2) sc__law_mixed.nd rfl (Or.inl rfl) (fe_op op_mod snd_mod (fe_op op_mul snd_mul (fe_var 2) (fe_op (op_addD rfl) sndD (fe_op op_fdiv snd_div (fe_var 2) fe_int) fe_int)) fe_int))
    (fss_one (fs_ret (fe_op op_mod snd_mod (fe_op op_mul snd_mul (fe_var 2) (fe_op (op_addD rfl) sndD (fe_op (op_addD rfl) sndD (fe_op op_fdiv snd_div (fe_var 2) fe_int) fe_int) (fe_var 1))) fe_int))))))

abbrev s__law_amount : Stmt := top 8
def g__law_amount : Ev → M Fl :=
  (sRet (eBin oAdd (eC (.int 1)) (eBin oIx (eLst (aCons (eBin oMod (eBin oDiv (eVar 0) (eC (.int 5))) (eC (.int 10))) (aCons (eBin oMod (eBin oDiv (eVar 0) (eC (.int 5))) (eBin oPow (eC (.int 10)) (eC (.int 12)))) (aCons (eBin oMod (eBin oDiv (eVar 0) (eC (.int 5))) (eC (.int 1000))) (aCons (eC (.int 0)) (aCons (eBin oSub (eBin oPow (eC (.int 10)) (eC (.int 12))) (eC (.int 1))) aNil)))))) (eBin oMod (eVar 0) (eC (.int 5))))))
def f__law_amount : List D → M D := run 1 g__law_amount
theorem sc__law_amount : FnScope ["_law_number"] ["_law_number"] (defScope s__law_amount) := ⟨rfl, rfl, rfl, by decide +kernel, rfl, by decide +kernel, by decide +kernel⟩
theorem bd__law_amount : ∀ (kV doc pm : Value) (an : Option Addr) (cdv ct : Value) (us : List Value), us.length = (["_law_number"] : List Str).length → bindArgs (PySem.W.fnOf "_law_amount" "_law_amount" (defArgs s__law_amount) (defBody s__law_amount) (defScope s__law_amount) .none kV doc pm an cdv ct) ⟨us, []⟩ = pure ((["_law_number"] : List Str).zip us) :=
  fun _ _ _ _ _ _ us hl => match us, hl with | [_], _ => rfl
theorem ok__law_amount (Xt : Txt K mg) : OkF ⟨K, ca⟩ P w mg base 1 "_law_amount" ["_law_number"] f__law_amount :=
  ok_of Xt.f__law_amount sc__law_amount fun _ _ _ _ _ _ _ hr =>
    (fss_one (fs_ret (fe_op (op_addD rfl) sndD fe_int (fe_ix ix_D (snd_ix rfl) (fe_lst (fa_cons (fe_op op_mod snd_mod (fe_op op_fdiv snd_div (fe_var 0) fe_int) fe_int) (fa_cons (fe_op op_mod snd_mod (fe_op op_fdiv snd_div (fe_var 0) fe_int) (fe_op op_pow snd_pow fe_int fe_int)) (fa_cons (fe_op op_mod snd_mod (fe_op op_fdiv snd_div (fe_var 0) fe_int) fe_int) (fa_cons fe_int (fa_cons (fe_op op_sub snd_sub (fe_op op_pow snd_pow fe_int fe_int) fe_int) fa_nil)))))) (fe_op op_mod snd_mod (fe_var 0) fe_int) (fun _ _ => rfl)))))

abbrev s__law_tie : Stmt := top 10
def g__law_tie : Ev → M Fl :=
  (sSeq (sSet 3 (eFn 1 f__law_amount [] (aCons (eBin oAdd (eBin oMul (eFn 2 f__law_mixed [] (aCons (eVar 0) (aCons (eBin oMul (eC (.int 4)) (eVar 1)) aNil))) (eC (.int 991))) (eFn 2 f__law_mixed [] (aCons (eVar 0) (aCons (eBin oAdd (eBin oMul (eC (.int 4)) (eVar 1)) (eC (.int 1))) aNil)))) aNil)))
  (sSeq (sSet 4 (eFn 2 f__law_mixed [] (aCons (eVar 0) (aCons (eBin oAdd (eBin oMul (eC (.int 4)) (eVar 1)) (eC (.int 3))) aNil))))
  (sSeq (sSet 5 (eBin oMod (eFn 2 f__law_mixed [] (aCons (eVar 0) (aCons (eBin oAdd (eBin oMul (eC (.int 4)) (eVar 1)) (eC (.int 2))) aNil))) (eBin oIx (eLst (aCons (eC (.int 40)) (aCons (eBin oAdd (eBin oPow (eC (.int 10)) (eC (.int 6))) (eC (.int 1))) aNil))) (eBin oDiv (eBin oMod (eVar 4) (eC (.int 4))) (eC (.int 3))))))
  (sRet (eTup (aCons (eBin oMod (eBin oDiv (eVar 4) (eC (.int 8))) (eC (.int 2))) (aCons (eVar 3) (aCons (eBin oIx (eVar 2) (eVar 1)) (aCons (eVar 5) aNil)))))))))
def f__law_tie : List D → M D := run 6 g__law_tie
theorem sc__law_tie : FnScope ["_law_cell", "_law_k", "_law_words", "_law_amount_here", "_law_last", "_law_day"] ["_law_cell", "_law_k", "_law_words"] (defScope s__law_tie) := ⟨rfl, rfl, rfl, by decide +kernel, rfl, by decide +kernel, by decide +kernel⟩
theorem bd__law_tie : ∀ (kV doc pm : Value) (an : Option Addr) (cdv ct : Value) (us : List Value), us.length = (["_law_cell", "_law_k", "_law_words"] : List Str).length → bindArgs (PySem.W.fnOf "_law_tie" "_law_tie" (defArgs s__law_tie) (defBody s__law_tie) (defScope s__law_tie) .none kV doc pm an cdv ct) ⟨us, []⟩ = pure ((["_law_cell", "_law_k", "_law_words"] : List Str).zip us) :=
  fun _ _ _ _ _ _ us hl => match us, hl with | [_, _, _], _ => rfl
theorem ok__law_tie (Xt : Txt K mg) : OkF ⟨K, ca⟩ P w mg base 2 "_law_tie" ["_law_cell", "_law_k", "_law_words"] f__law_tie :=
  ok_of Xt.f__law_tie sc__law_tie fun _ _ _ _ _ _ _ hr =>
    (fss_cons (fs_set (i := 3) sc__law_tie.nd rfl (Or.inl rfl) (fe_callO (ok__law_amount Xt) rfl (hr.mono (by decide)) rfl (fa_cons (fe_op (op_addD rfl) sndD (fe_op op_mul snd_mul (fe_callO (ok__law_mixed Xt) rfl (hr.mono (by decide)) rfl (fa_cons (fe_var 0) (fa_cons (fe_op op_mul snd_mul fe_int (fe_var 1)) fa_nil))) fe_int) (fe_callO (ok__law_mixed Xt) rfl (hr.mono (by decide)) rfl (fa_cons (fe_var 0) (fa_cons (fe_op (op_addD rfl) sndD (fe_op op_mul snd_mul fe_int (fe_var 1)) fe_int) fa_nil)))) fa_nil)))
    (fss_cons (fs_set (i := 4) sc__law_tie.nd rfl (Or.inl rfl) (fe_callO (ok__law_mixed Xt) rfl (hr.mono (by decide)) rfl (fa_cons (fe_var 0) (fa_cons (fe_op (op_addD rfl) sndD (fe_op op_mul snd_mul fe_int (fe_var 1)) fe_int) fa_nil))))
    (fss_cons (fs_set (i := 5) sc__law_tie.nd rfl (Or.inl rfl) (fe_op op_mod snd_mod (fe_callO (ok__law_mixed Xt) rfl (hr.mono (by decide)) rfl (fa_cons (fe_var 0) (fa_cons (fe_op (op_addD rfl) sndD (fe_op op_mul snd_mul fe_int (fe_var 1)) fe_int) fa_nil))) (fe_ix ix_D (snd_ix rfl) (fe_lst (fa_cons fe_int (fa_cons (fe_op (op_addD rfl) sndD (fe_op op_pow snd_pow fe_int fe_int) fe_int) fa_nil))) (fe_op op_fdiv snd_div (fe_op op_mod snd_mod (fe_var 4) fe_int) fe_int) (fun _ _ => rfl))))
    (fss_one (fs_ret (fe_tup (fa_cons (fe_op op_mod snd_mod (fe_op op_fdiv snd_div (fe_var 4) fe_int) fe_int) (fa_cons (fe_var 3) (fa_cons (fe_ix ix_D (snd_ix rfl) (fe_var 2) (fe_var 1) (fun _ _ => rfl)) (fa_cons (fe_var 5) fa_nil))))))))))

abbrev s__law_ties : Stmt := top 11
def g__law_ties : Ev → M Fl :=
  (sSeq (sSet 1 (eLst aNil))
  (sSeq (sForR (eBin oMod (eVar 0) (eC (.int 7))) (tgN 2) (sSeq (sSet 3 (eBin oMod (eBin oAdd (eBin oDiv (eFn 2 f__law_mixed [] (aCons (eVar 0) (aCons (eC (.int 40)) aNil))) (eC (.int 60))) (eBin oMul (eVar 2) (eBin oAdd (eC (.int 1)) (eBin oMod (eFn 2 f__law_mixed [] (aCons (eVar 0) (aCons (eC (.int 41)) aNil))) (eC (.int 9)))))) (eC (.int 60))))
  (sIf (eT (eBin (oIn true) (eVar 3) (eVar 1))) (sExp (eMeth oAppend (eVar 1) (aCons (eVar 3) aNil))) sNil)))
  (sRet (eCall oTuple (aCons (eLC (srcR (eCall oLen (aCons (eVar 1) aNil))) [1, 0] (tgN 0) bTrue (eFn 3 f__law_tie [] (aCons (eBin oDiv (eVar 2) (eC (.int 7))) (aCons (eVar 0) (aCons (eVar 1) aNil))))) aNil)))))
def f__law_ties : List D → M D := run 4 g__law_ties
theorem sc__law_ties : FnScope ["_law_cell", "_law_words", "_law_k", "_law_word"] ["_law_cell"] (defScope s__law_ties) := ⟨rfl, rfl, rfl, by decide +kernel, rfl, by decide +kernel, by decide +kernel⟩
theorem bd__law_ties : ∀ (kV doc pm : Value) (an : Option Addr) (cdv ct : Value) (us : List Value), us.length = (["_law_cell"] : List Str).length → bindArgs (PySem.W.fnOf "_law_ties" "_law_ties" (defArgs s__law_ties) (defBody s__law_ties) (defScope s__law_ties) .none kV doc pm an cdv ct) ⟨us, []⟩ = pure ((["_law_cell"] : List Str).zip us) :=
  fun _ _ _ _ _ _ us hl => match us, hl with | [_], _ => rfl
theorem ok__law_ties (Xt : Txt K mg) : OkF ⟨K, ca⟩ P w mg base 3 "_law_ties" ["_law_cell"] f__law_ties :=
  ok_of Xt.f__law_ties sc__law_ties fun _ _ _ _ _ _ _ hr =>
    (fss_cons (fs_set (i := 1) sc__law_ties.nd rfl (Or.inr rfl) (fe_lst fa_nil))
    (fss_cons (fs_forR PassesOwn.never rfl rfl Xt.n_range (fe_op op_mod snd_mod (fe_var 0) fe_int) (fg_name (i := 2) sc__law_ties.nd rfl (Or.inl rfl)) (fss_cons (fs_set (i := 3) sc__law_ties.nd rfl (Or.inl rfl) (fe_op op_mod snd_mod (fe_op (op_addD rfl) sndD (fe_op op_fdiv snd_div (fe_callO (ok__law_mixed Xt) rfl (hr.mono (by decide)) rfl (fa_cons (fe_var 0) (fa_cons fe_int fa_nil))) fe_int) (fe_op op_mul snd_mul (fe_var 2) (fe_op (op_addD rfl) sndD fe_int (fe_op op_mod snd_mod (fe_callO (ok__law_mixed Xt) rfl (hr.mono (by decide)) rfl (fa_cons (fe_var 0) (fa_cons fe_int fa_nil))) fe_int)))) fe_int))
    (fss_one (fs_if (ft_cmp op_notIn_seq (snd_in rfl true) (fe_var 3) (fe_var 1) rfl) (fss_one (fs_expr (fe_meth PySem.F.plainAttrs_list PySem.F.slot_list_append PySem.F.type_list_append mt_append snd_append (fe_var 1) (fa_cons (fe_var 3) fa_nil)))) fss_nil))))
    (fss_one (fs_ret (fe_callTy call_tuple_of (snd_tuple rfl) rfl Xt.n_tuple boot_tuple (fa_cons (fe_lc (x := "_law_k") (M' := ["_law_words", "_law_cell"]) (ix := [1, 0]) rfl ⟨rfl, rfl, rfl, rfl, rfl, rfl⟩ (fi_range rfl Xt.n_range (fe_callB call_len_seq (snd_len rfl) rfl Xt.n_len PySem.boot_len (fa_cons (fe_var 1) fa_nil))) (fun _ _ _ _ _ => fg_name (i := 0) (by show List.Nodup (("_law_k" :: ["_law_words", "_law_cell"]) : List Str); decide +kernel) rfl (Or.inl rfl)) (fun _ _ _ _ _ => fif_nil) (fun _ _ _ _ _ => (fe_callO (ok__law_tie Xt) rfl (hr.mono (by decide)) rfl (fa_cons (fe_op op_fdiv snd_div (fe_var 2) fe_int) (fa_cons (fe_var 0) (fa_cons (fe_var 1) fa_nil)))))) fa_nil))))))

abbrev s__law_stand : Stmt := top 12
def g__law_stand : Ev → M Fl :=
  (sSeq (sSet 2 (eTup (aCons (eFn 1 f__law_share [] (aCons (eBin oAdd (eBin oMul (eFn 2 f__law_mixed [] (aCons (eVar 1) (aCons (eC (.int 50)) aNil))) (eC (.int 977))) (eC (.int 3))) aNil)) (aCons (eFn 1 f__law_share [] (aCons (eBin oAdd (eBin oMul (eFn 2 f__law_mixed [] (aCons (eVar 1) (aCons (eC (.int 51)) aNil))) (eC (.int 983))) (eFn 2 f__law_mixed [] (aCons (eVar 1) (aCons (eC (.int 52)) aNil)))) aNil)) aNil))))
  (sRet (eTup (aCons (eVar 0) (aCons (eVar 2) (aCons (eFn 1 f__law_ties [] (aCons (eBin oDiv (eVar 1) (eC (.int 3))) aNil)) aNil))))))
def f__law_stand : List D → M D := run 3 g__law_stand
theorem sc__law_stand : FnScope ["_law_number", "_law_cell", "_law_shares"] ["_law_number", "_law_cell"] (defScope s__law_stand) := ⟨rfl, rfl, rfl, by decide +kernel, rfl, by decide +kernel, by decide +kernel⟩
theorem bd__law_stand : ∀ (kV doc pm : Value) (an : Option Addr) (cdv ct : Value) (us : List Value), us.length = (["_law_number", "_law_cell"] : List Str).length → bindArgs (PySem.W.fnOf "_law_stand" "_law_stand" (defArgs s__law_stand) (defBody s__law_stand) (defScope s__law_stand) .none kV doc pm an cdv ct) ⟨us, []⟩ = pure ((["_law_number", "_law_cell"] : List Str).zip us) :=
  fun _ _ _ _ _ _ us hl => match us, hl with | [_, _], _ => rfl
theorem ok__law_stand (Xt : Txt K mg) : OkF ⟨K, ca⟩ P w mg base 4 "_law_stand" ["_law_number", "_law_cell"] f__law_stand :=
  ok_of Xt.f__law_stand sc__law_stand fun _ _ _ _ _ _ _ hr =>
    (fss_cons (fs_set (i := 2) sc__law_stand.nd rfl (Or.inl rfl) (fe_tup (fa_cons (fe_callO (ok__law_share Xt) rfl (hr.mono (by decide)) rfl (fa_cons (fe_op (op_addD rfl) sndD (fe_op op_mul snd_mul (fe_callO (ok__law_mixed Xt) rfl (hr.mono (by decide)) rfl (fa_cons (fe_var 1) (fa_cons fe_int fa_nil))) fe_int) fe_int) fa_nil)) (fa_cons (fe_callO (ok__law_share Xt) rfl (hr.mono (by decide)) rfl (fa_cons (fe_op (op_addD rfl) sndD (fe_op op_mul snd_mul (fe_callO (ok__law_mixed Xt) rfl (hr.mono (by decide)) rfl (fa_cons (fe_var 1) (fa_cons fe_int fa_nil))) fe_int) (fe_callO (ok__law_mixed Xt) rfl (hr.mono (by decide)) rfl (fa_cons (fe_var 1) (fa_cons fe_int fa_nil)))) fa_nil)) fa_nil))))
    (fss_one (fs_ret (fe_tup (fa_cons (fe_var 0) (fa_cons (fe_var 2) (fa_cons (fe_callO (ok__law_ties Xt) rfl (hr.mono (by decide)) rfl (fa_cons (fe_op op_fdiv snd_div (fe_var 1) fe_int) fa_nil)) fa_nil)))))))

abbrev s_other_side : Stmt := top 1
def g_other_side : Ev → M Fl :=
  (sRet (eBin oSub (eC (.int 1)) (eVar 0)))
def f_other_side : List D → M D := run 1 g_other_side
theorem sc_other_side : FnScope ["side"] ["side"] (defScope s_other_side) := ⟨rfl, rfl, rfl, by decide +kernel, rfl, by decide +kernel, by decide +kernel⟩
theorem bd_other_side : ∀ (kV doc pm : Value) (an : Option Addr) (cdv ct : Value) (us : List Value), us.length = (["side"] : List Str).length → bindArgs (PySem.W.fnOf "other_side" "other_side" (defArgs s_other_side) (defBody s_other_side) (defScope s_other_side) .none kV doc pm an cdv ct) ⟨us, []⟩ = pure ((["side"] : List Str).zip us) :=
  fun _ _ _ _ _ _ us hl => match us, hl with | [_], _ => rfl
theorem ok_other_side (Xt : Txt K mg) : OkF ⟨K, ca⟩ P w mg base 1 "other_side" ["side"] f_other_side :=
  ok_of Xt.f_other_side sc_other_side fun _ _ _ _ _ _ _ hr =>
    (fss_one (fs_ret (fe_op op_sub snd_sub fe_int (fe_var 0))))

abbrev s_with_more : Stmt := top 3
def g_with_more : Ev → M Fl :=
  (sSeq (sIf (eT (eBin oEq (eVar 1) (eC (.int 0)))) (sRet (eTup (aCons (eBin oAdd (eBin oIx (eVar 0) (eC (.int 0))) (eVar 2)) (aCons (eBin oIx (eVar 0) (eC (.int 1))) aNil)))) sNil)
  (sRet (eTup (aCons (eBin oIx (eVar 0) (eC (.int 0))) (aCons (eBin oAdd (eBin oIx (eVar 0) (eC (.int 1))) (eVar 2)) aNil)))))
def f_with_more : List D → M D := run 3 g_with_more
theorem sc_with_more : FnScope ["shares", "side", "amount"] ["shares", "side", "amount"] (defScope s_with_more) := ⟨rfl, rfl, rfl, by decide +kernel, rfl, by decide +kernel, by decide +kernel⟩
theorem bd_with_more : ∀ (kV doc pm : Value) (an : Option Addr) (cdv ct : Value) (us : List Value), us.length = (["shares", "side", "amount"] : List Str).length → bindArgs (PySem.W.fnOf "with_more" "with_more" (defArgs s_with_more) (defBody s_with_more) (defScope s_with_more) .none kV doc pm an cdv ct) ⟨us, []⟩ = pure ((["shares", "side", "amount"] : List Str).zip us) :=
  fun _ _ _ _ _ _ us hl => match us, hl with | [_, _, _], _ => rfl
theorem ok_with_more (Xt : Txt K mg) : OkF ⟨K, ca⟩ P w mg base 1 "with_more" ["shares", "side", "amount"] f_with_more :=
  ok_of Xt.f_with_more sc_with_more fun _ _ _ _ _ _ _ hr =>
    (fss_cons (fs_if (ft_cmp (op_eqD (hu9 hr)) sndD (fe_var 1) fe_int (nomark _)) (fss_one (fs_ret (fe_tup (fa_cons (fe_op (op_addD rfl) sndD (fe_ix ix_D (snd_ix rfl) (fe_var 0) fe_int (fun _ _ => rfl)) (fe_var 2)) (fa_cons (fe_ix ix_D (snd_ix rfl) (fe_var 0) fe_int (fun _ _ => rfl)) fa_nil))))) fss_nil)
    (fss_one (fs_ret (fe_tup (fa_cons (fe_ix ix_D (snd_ix rfl) (fe_var 0) fe_int (fun _ _ => rfl)) (fa_cons (fe_op (op_addD rfl) sndD (fe_ix ix_D (snd_ix rfl) (fe_var 0) fe_int (fun _ _ => rfl)) (fe_var 2)) fa_nil))))))

abbrev s_comes_to : Stmt := top 4
def g_comes_to : Ev → M Fl :=
  (sSeq (sSet 2 (eBin oIx (eVar 0) (eC (.int 1))))
  (sSeq (sForT (eBin oIx (eVar 0) (eC (.int 2))) (tgN 3) (sSeq (sSet 4 (eIf (eT (eBin (oIn false) (eBin oIx (eVar 3) (eC (.int 2))) (eVar 1))) (eFn 1 f_other_side [] (aCons (eBin oIx (eVar 3) (eC (.int 0))) aNil)) (eBin oIx (eVar 3) (eC (.int 0)))))
  (sSet 2 (eFn 3 f_with_more [] (aCons (eVar 2) (aCons (eVar 4) (aCons (eBin oIx (eVar 3) (eC (.int 1))) aNil)))))))
  (sRet (eVar 2))))
def f_comes_to : List D → M D := run 5 g_comes_to
theorem sc_comes_to : FnScope ["one", "words", "shares", "tie", "side"] ["one", "words"] (defScope s_comes_to) := ⟨rfl, rfl, rfl, by decide +kernel, rfl, by decide +kernel, by decide +kernel⟩
theorem bd_comes_to : ∀ (kV doc pm : Value) (an : Option Addr) (cdv ct : Value) (us : List Value), us.length = (["one", "words"] : List Str).length → bindArgs (PySem.W.fnOf "comes_to" "comes_to" (defArgs s_comes_to) (defBody s_comes_to) (defScope s_comes_to) .none kV doc pm an cdv ct) ⟨us, []⟩ = pure ((["one", "words"] : List Str).zip us) :=
  fun _ _ _ _ _ _ us hl => match us, hl with | [_, _], _ => rfl
theorem ok_comes_to (Xt : Txt K mg) : OkF ⟨K, ca⟩ P w mg base 2 "comes_to" ["one", "words"] f_comes_to :=
  ok_of Xt.f_comes_to sc_comes_to fun _ _ _ _ _ _ _ hr =>
    (fss_cons (fs_set (i := 2) sc_comes_to.nd rfl (Or.inl rfl) (fe_ix ix_D (snd_ix rfl) (fe_var 0) fe_int (fun _ _ => rfl)))
    (fss_cons (fs_forT PassesOwn.never rfl rfl (fe_ix ix_D (snd_ix rfl) (fe_var 0) fe_int (fun _ _ => rfl)) (fg_name (i := 3) sc_comes_to.nd rfl (Or.inl rfl)) (fss_cons (fs_set (i := 4) sc_comes_to.nd rfl (Or.inl rfl) (fe_ifExp (ft_cmp op_in_seq (snd_in rfl false) (fe_ix ix_D (snd_ix rfl) (fe_var 3) fe_int (fun _ _ => rfl)) (fe_var 1) rfl) (fe_callO (ok_other_side Xt) rfl (hr.mono (by decide)) rfl (fa_cons (fe_ix ix_D (snd_ix rfl) (fe_var 3) fe_int (fun _ _ => rfl)) fa_nil)) (fe_ix ix_D (snd_ix rfl) (fe_var 3) fe_int (fun _ _ => rfl))))
    (fss_one (fs_set (i := 2) sc_comes_to.nd rfl (Or.inl rfl) (fe_callO (ok_with_more Xt) rfl (hr.mono (by decide)) rfl (fa_cons (fe_var 2) (fa_cons (fe_var 4) (fa_cons (fe_ix ix_D (snd_ix rfl) (fe_var 3) fe_int (fun _ _ => rfl)) fa_nil))))))))
    (fss_one (fs_ret (fe_var 2)))))

abbrev s_law : Stmt := top 13
def g_law : Ev → M Fl :=
  (sSeq (sSet 1 (eFn 2 f__law_cell_at [] (aCons (eVar 0) (aCons (eC (.int 0)) aNil))))
  (sSeq (sSet 2 (eFn 2 f__law_stand [] (aCons (eBin oMod (eVar 1) (eBin oAdd (eBin oPow (eC (.int 10)) (eC (.int 6))) (eC (.int 1)))) (aCons (eFn 2 f__law_cell_at [] (aCons (eVar 0) (aCons (eC (.int 1)) aNil))) aNil))))
  (sSeq (sSet 3 (eLC (srcT (eBin oIx (eVar 2) (eC (.int 2)))) [] (tgN 0) bTrue (eBin oIx (eVar 0) (eC (.int 2)))))
  (sSeq (sSet 4 (eLst aNil))
  (sSeq (sForR (eBin oMod (eFn 2 f__law_cell_at [] (aCons (eVar 0) (aCons (eC (.int 2)) aNil))) (eC (.int 9))) (tgN 5) (sSeq (sSet 6 (eFn 2 f__law_mixed [] (aCons (eBin oDiv (eFn 2 f__law_cell_at [] (aCons (eVar 0) (aCons (eC (.int 2)) aNil))) (eC (.int 9))) (aCons (eVar 5) aNil))))
  (sExp (eMeth oAppend (eVar 4) (aCons (eBin oIx (eBin oAdd (eLst (aCons (eBin oMod (eBin oDiv (eVar 6) (eC (.int 3))) (eC (.int 60))) aNil)) (eVar 3)) (eBin oMod (eVar 6) (eBin oAdd (eC (.int 1)) (eCall oLen (aCons (eVar 3) aNil))))) aNil)))))
  (sSeq (sSet 7 (eLst (aCons (eBin oIx (eBin oIx (eVar 2) (eC (.int 1))) (eC (.int 0))) (aCons (eBin oIx (eBin oIx (eVar 2) (eC (.int 1))) (eC (.int 1))) aNil))))
  (sSeq (sForT (eBin oIx (eVar 2) (eC (.int 2))) (tgT 4 (tgCons (tgN 8) (tgCons (tgN 9) (tgCons (tgN 10) (tgCons (tgN 11) tgNil))))) (sSeq (sSet 12 (eVar 8))
  (sSeq (sIf (eT (eBin oGt (eMeth oCount (eVar 4) (aCons (eVar 10) aNil)) (eC (.int 0)))) (sSet 12 (eBin oIx (eLst (aCons (eC (.int 1)) (aCons (eC (.int 0)) aNil))) (eVar 8))) sNil)
  (sSetL (eBin oAdd (eBin oIx (eVar 7) (eVar 12)) (eVar 9)) (eVar 7) (eVar 12)))))
  (sSeq (sSet 13 (eCall oList (aCons (eVar 4) aNil)))
  (sSeq (sSet 14 (eFn 2 f_comes_to [] (aCons (eVar 2) (aCons (eVar 13) aNil))))
  (sSeq (sIf (bNot (eT (eUn (oIsB .tuple) (eVar 14)))) (sRet (eC (.bl false))) sNil)
  (sSeq (sForT (eVar 14) (tgN 15) (sIf (bOr (bNot (eT (eUn (oIsB .int) (eVar 15)))) (eT (eUn (oIsB .bool) (eVar 15)))) (sRet (eC (.bl false))) sNil))
  (sSeq (sSet 16 (eFn 2 f__law_stand [] (aCons (eBin oMod (eVar 1) (eBin oAdd (eBin oPow (eC (.int 10)) (eC (.int 6))) (eC (.int 1)))) (aCons (eFn 2 f__law_cell_at [] (aCons (eVar 0) (aCons (eC (.int 1)) aNil))) aNil))))
  (sRet (eAnd (eBin oEq (eVar 14) (eTup (aCons (eBin oIx (eVar 7) (eC (.int 0))) (aCons (eBin oIx (eVar 7) (eC (.int 1))) aNil)))) (eAnd (eBin oEq (eVar 13) (eVar 4)) (eBin oEq (eVar 2) (eVar 16)))))))))))))))))
def f_law : List D → M D := run 17 g_law
theorem sc_law : FnScope ["_law_script", "_law_cell", "_law_one", "_law_mine", "_law_words", "_law_k", "_law_number", "_law_due", "_law_payer", "_law_amount_here", "_law_word", "_law_day", "_law_side", "_law_handed", "_law_found", "_law_part", "_law_again"] ["_law_script"] (defScope s_law) := ⟨rfl, rfl, rfl, by decide +kernel, rfl, by decide +kernel, by decide +kernel⟩
theorem bd_law : ∀ (kV doc pm : Value) (an : Option Addr) (cdv ct : Value) (us : List Value), us.length = (["_law_script"] : List Str).length → bindArgs (PySem.W.fnOf "law" "law" (defArgs s_law) (defBody s_law) (defScope s_law) .none kV doc pm an cdv ct) ⟨us, []⟩ = pure ((["_law_script"] : List Str).zip us) :=
  fun _ _ _ _ _ _ us hl => match us, hl with | [_], _ => rfl
theorem ok_law (Xt : Txt K mg) : OkL ⟨K, ca⟩ P w mg 5 "law" ["_law_script"] f_law :=
  ok_ofL Xt.f_law sc_law fun _ _ _ _ _ _ _ _ hr =>
    (fss_cons (fs_set (i := 1) sc_law.nd rfl (Or.inl rfl) (fe_callO (ok__law_cell_at Xt) rfl (hr.mono (by decide)) rfl (fa_cons (fe_var 0) (fa_cons fe_int fa_nil))))
    (fss_cons (fs_set (i := 2) sc_law.nd rfl (Or.inl rfl) (fe_callO (ok__law_stand Xt) rfl (hr.mono (by decide)) rfl (fa_cons (fe_op op_mod snd_mod (fe_var 1) (fe_op (op_addD rfl) sndD (fe_op op_pow snd_pow fe_int fe_int) fe_int)) (fa_cons (fe_callO (ok__law_cell_at Xt) rfl (hr.mono (by decide)) rfl (fa_cons (fe_var 0) (fa_cons fe_int fa_nil))) fa_nil))))
    (fss_cons (fs_setLC (i := 3) sc_law.nd rfl (Or.inl rfl) (x := "_law_tie_here") (M' := []) (ix := []) rfl ⟨rfl, rfl, rfl, rfl, rfl, rfl⟩ (fi_tup (fe_ix ix_D (snd_ix rfl) (fe_var 2) fe_int (fun _ _ => rfl))) (fun _ _ _ _ _ => fg_name (i := 0) (by show List.Nodup (("_law_tie_here" :: []) : List Str); decide +kernel) rfl (Or.inl rfl)) (fun _ _ _ _ _ => fif_nil) (fun _ _ _ _ _ => (fe_ix ix_D (snd_ix rfl) (fe_var 0) fe_int (fun _ _ => rfl))))
    (fss_cons (fs_set (i := 4) sc_law.nd rfl (Or.inl rfl) (fe_lst fa_nil))
    (fss_cons (fs_forR PassesOwn.never rfl rfl Xt.n_range (fe_op op_mod snd_mod (fe_callO (ok__law_cell_at Xt) rfl (hr.mono (by decide)) rfl (fa_cons (fe_var 0) (fa_cons fe_int fa_nil))) fe_int) (fg_name (i := 5) sc_law.nd rfl (Or.inl rfl)) (fss_cons (fs_set (i := 6) sc_law.nd rfl (Or.inl rfl) (fe_callO (ok__law_mixed Xt) rfl (hr.mono (by decide)) rfl (fa_cons (fe_op op_fdiv snd_div (fe_callO (ok__law_cell_at Xt) rfl (hr.mono (by decide)) rfl (fa_cons (fe_var 0) (fa_cons fe_int fa_nil))) fe_int) (fa_cons (fe_var 5) fa_nil))))
    (fss_one (fs_expr (fe_meth PySem.F.plainAttrs_list PySem.F.slot_list_append PySem.F.type_list_append mt_append snd_append (fe_var 4) (fa_cons (fe_ix ix_D (snd_ix rfl) (fe_op (op_addD rfl) sndD (fe_lst (fa_cons (fe_op op_mod snd_mod (fe_op op_fdiv snd_div (fe_var 6) fe_int) fe_int) fa_nil)) (fe_var 3)) (fe_op op_mod snd_mod (fe_var 6) (fe_op (op_addD rfl) sndD fe_int (fe_callB call_len_seq (snd_len rfl) rfl Xt.n_len PySem.boot_len (fa_cons (fe_var 3) fa_nil)))) (fun _ _ => rfl)) fa_nil))))))
    (fss_cons (fs_set (i := 7) sc_law.nd rfl (Or.inl rfl) (fe_lst (fa_cons (fe_ix ix_D (snd_ix rfl) (fe_ix ix_D (snd_ix rfl) (fe_var 2) fe_int (fun _ _ => rfl)) fe_int (fun _ _ => rfl)) (fa_cons (fe_ix ix_D (snd_ix rfl) (fe_ix ix_D (snd_ix rfl) (fe_var 2) fe_int (fun _ _ => rfl)) fe_int (fun _ _ => rfl)) fa_nil))))
    (fss_cons (fs_forT PassesOwn.never rfl rfl (fe_ix ix_D (snd_ix rfl) (fe_var 2) fe_int (fun _ _ => rfl)) (fg_tup rfl (fgs_cons (fg_name (i := 8) sc_law.nd rfl (Or.inl rfl)) (fgs_cons (fg_name (i := 9) sc_law.nd rfl (Or.inl rfl)) (fgs_cons (fg_name (i := 10) sc_law.nd rfl (Or.inl rfl)) (fgs_cons (fg_name (i := 11) sc_law.nd rfl (Or.inl rfl)) fgs_nil))))) (fss_cons (fs_set (i := 12) sc_law.nd rfl (Or.inl rfl) (fe_var 8))
    (fss_cons (fs_if (ft_cmp op_gt snd_gt (fe_meth PySem.F.plainAttrs_list PySem.F.slot_list_count PySem.F.type_list_count mt_count snd_count (fe_var 4) (fa_cons (fe_var 10) fa_nil)) fe_int (nomark _)) (fss_one (fs_set (i := 12) sc_law.nd rfl (Or.inl rfl) (fe_ix ix_D (snd_ix rfl) (fe_lst (fa_cons fe_int (fa_cons fe_int fa_nil))) (fe_var 8) (fun _ _ => rfl)))) fss_nil)
    (fss_one (fs_setL (fe_op (op_addD rfl) sndD (fe_ix ix_D (snd_ix rfl) (fe_var 7) (fe_var 12) (fun _ _ => rfl)) (fe_var 9)) (fe_var 7) (fe_var 12))))))
    (fss_cons (fs_set (i := 13) sc_law.nd rfl (Or.inl rfl) (fe_callTy call_list_of (snd_list rfl) rfl Xt.n_list boot_list (fa_cons (fe_var 4) fa_nil)))
    (fss_cons (fs_set (i := 14) sc_law.nd rfl (Or.inl rfl) (fe_callO (ok_comes_to Xt) rfl (hr.mono (by decide)) rfl (fa_cons (fe_var 2) (fa_cons (fe_var 13) fa_nil))))
    (fss_cons (fs_if (ft_not (ft_val (fe_isB .tuple (fe_var 14) rfl Xt.n_isinstance rfl Xt.n_tuple boot_tuple))) (fss_one (fs_ret fe_bl)) fss_nil)
    (fss_cons (fs_forT PassesOwn.never rfl rfl (fe_var 14) (fg_name (i := 15) sc_law.nd rfl (Or.inl rfl)) (fss_one (fs_if (L2.PW.pt (fw_or (ft_not (ft_val (fe_isB .int (fe_var 15) rfl Xt.n_isinstance rfl Xt.n_int boot_int))) (fw_or1 (ft_val (fe_isB .bool (fe_var 15) rfl Xt.n_isinstance rfl Xt.n_bool boot_bool))))) (fss_one (fs_ret fe_bl)) fss_nil)))
    (fss_cons (fs_set (i := 16) sc_law.nd rfl (Or.inl rfl) (fe_callO (ok__law_stand Xt) rfl (hr.mono (by decide)) rfl (fa_cons (fe_op op_mod snd_mod (fe_var 1) (fe_op (op_addD rfl) sndD (fe_op op_pow snd_pow fe_int fe_int) fe_int)) (fa_cons (fe_callO (ok__law_cell_at Xt) rfl (hr.mono (by decide)) rfl (fa_cons (fe_var 0) (fa_cons fe_int fa_nil))) fa_nil))))
    (fss_one (fs_ret (fe_and (fe_cmp (op_eqD (hu9 hr)) sndD (fe_var 14) (fe_tup (fa_cons (fe_ix ix_D (snd_ix rfl) (fe_var 7) fe_int (fun _ _ => rfl)) (fa_cons (fe_ix ix_D (snd_ix rfl) (fe_var 7) fe_int (fun _ _ => rfl)) fa_nil))) (nomark _)) (fe_and (fe_cmp (op_eqD (hu9 hr)) sndD (fe_var 13) (fe_var 4) (nomark _)) (fe_one (fe_cmp (op_eqD (hu9 hr)) sndD (fe_var 2) (fe_var 16) (nomark _)))))))))))))))))))

end
end K05

namespace K05
open PySem L2 L3

theorem atI_int {α : Type} {ds : List α} {k : Int} {d : α} (h0 : 0 ≤ k) (h : ds[k.toNat]? = some d) : atI ds k = some d := by
  have e : k = ((k.toNat : Nat) : Int) := by omega
  generalize k.toNat = n at h e
  subst e
  exact atI_nat h
theorem cap_ok {ds : List D} (h : Nat.ble ds.length 1000 = true) : ds.length ≤ cap := Nat.le_of_ble_eq_true h
theorem pick {ds : List D} {k : Int} {n : Nat} (h0 : 0 ≤ k) (h1 : k < n) (hn : ds.length = n) : ∃ d, d ∈ ds ∧ atI ds k = some d := by
  have hl : k.toNat < ds.length := by omega
  exact ⟨ds[k.toNat], List.getElem_mem hl, atI_int h0 (by simp [hl])⟩
section
variable {I : Sto → Prop} (hI : Stab I)
include hI
theorem to_ {α : Type} {m : M α} {a b : α} (h : Pu I m a) (e : a = b) : Pu I m b := e ▸ h
theorem cell_pu (ns : List Int) (k : Int) (hk : 0 ≤ k) : ∃ c, Pu I (f__law_cell_at [.scr ns, .int k]) (.int c) := by
  by_cases h : k < ns.length
  · refine ⟨(ns[k.toNat]'(by omega)), Pu.run hI (Pu.seqR hI (Pu.sifT hI (to_ hI (Pu.eT hI (Pu.bin hI (Pu.var rfl) (Pu.lenS hI (Pu.var rfl)) Pu.intB)) (by simpa using h)) (Pu.sret hI (Pu.ixS hI (Pu.var rfl) (Pu.var rfl) (atI_int hk ?_)))))⟩
    rw [List.getElem?_map, List.getElem?_eq_getElem (by omega)]
    rfl
  · exact ⟨0, Pu.run hI (Pu.seq hI (Pu.sifF hI (to_ hI (Pu.eT hI (Pu.bin hI (Pu.var rfl) (Pu.lenS hI (Pu.var rfl)) Pu.intB)) (by simpa using h)) Pu.nil) (Pu.sret hI Pu.c))⟩
theorem mixed_pu (c k : Int) (hk : 0 ≤ k) : ∃ m, Pu I (f__law_mixed [.int c, .int k]) (.int m) := by
  have t0 : Pu I (eBin oEq (eBin oMod (eVar 0) (eC (.int 2))) (eC (.int 0)) [some (.int c), some (.int k), none]) (.bl (c % 2 == 0)) := Pu.bin hI (Pu.bin hI (Pu.var rfl) Pu.c (Pu.mod (by decide))) Pu.c Pu.eqI
  by_cases h : c % 2 = 0
  · exact ⟨_, Pu.run hI (Pu.seqR hI (Pu.sifT hI (Pu.eT hI (to_ hI t0 (by simp [h]))) (Pu.sret hI (Pu.bin hI (Pu.bin hI (Pu.bin hI (Pu.var rfl) Pu.c (Pu.div (by decide) (by decide))) (Pu.bin hI Pu.c (Pu.var rfl) (Pu.mulL (by decide) (by decide))) (Pu.shr (by omega))) Pu.c Pu.int))))⟩
  · have b1 : ∀ z : Int, -(2 ^ 64) < z % 2147483647 ∧ z % 2147483647 < 2 ^ 64 := fun z => by omega
    exact ⟨_, Pu.run hI (Pu.seq hI (Pu.sifF hI (Pu.eT hI (to_ hI t0 (by simp [h]))) Pu.nil)
      (Pu.seq hI (Pu.set hI (Pu.bin hI (Pu.bin hI (Pu.bin hI (Pu.bin hI (Pu.bin hI (Pu.var rfl) Pu.c (Pu.mod (by decide))) (Pu.bin hI Pu.c (Pu.var rfl) (Pu.mulL (by decide) (by decide))) Pu.add) Pu.c Pu.add) Pu.c (Pu.mulR (by decide) (by decide))) Pu.c (Pu.mod (by decide))))
      (Pu.seq hI (Pu.set hI (Pu.bin hI (Pu.bin hI (Pu.var rfl) (Pu.bin hI (Pu.bin hI (Pu.var rfl) Pu.c (Pu.div (by decide) (by decide))) Pu.c Pu.add) (Pu.mulL (b1 _).1 (b1 _).2)) Pu.c (Pu.mod (by decide))))
      (Pu.sret hI (Pu.bin hI (Pu.bin hI (Pu.var rfl) (Pu.bin hI (Pu.bin hI (Pu.bin hI (Pu.var rfl) Pu.c (Pu.div (by decide) (by decide))) Pu.c Pu.add) (Pu.var rfl) Pu.add) (Pu.mulL (b1 _).1 (b1 _).2)) Pu.c (Pu.mod (by decide)))))))⟩
end
abbrev TT : Sto → Prop := fun _ => True
noncomputable def mixV (c k : Int) : Int := if h : 0 ≤ k then (mixed_pu (I := TT) stab_T c k h).choose else 0
noncomputable def cellV (ns : List Int) (k : Int) : Int := if h : 0 ≤ k then (cell_pu (I := TT) stab_T ns k h).choose else 0
theorem any_I {α : Type} {m : M α} {a : α} {I : Sto → Prop} (h : Pu TT m a) : Pu I m a := h.mono fun _ _ => trivial
theorem mixV_pu {I : Sto → Prop} {c k : Int} (hk : 0 ≤ k) : Pu I (f__law_mixed [.int c, .int k]) (.int (mixV c k)) := by
  unfold mixV; rw [dif_pos hk]; exact any_I (mixed_pu (I := TT) stab_T c k hk).choose_spec
theorem cellV_pu {I : Sto → Prop} {ns : List Int} {k : Int} (hk : 0 ≤ k) : Pu I (f__law_cell_at [.scr ns, .int k]) (.int (cellV ns k)) := by
  unfold cellV; rw [dif_pos hk]; exact any_I (cell_pu (I := TT) stab_T ns k hk).choose_spec
section
variable {I : Sto → Prop} (hI : Stab I)
include hI
theorem mix_e {a b : Ev → M D} {ρ : Ev} {c k : Int} (ha : Pu I (a ρ) (.int c)) (hb : Pu I (b ρ) (.int k)) (hk : 0 ≤ k) : Pu I (eFn 2 f__law_mixed [] (aCons a (aCons b aNil)) ρ) (.int (mixV c k)) :=
  Pu.fn hI (Pu.acons hI ha (Pu.acons hI hb Pu.anil)) rfl (mixV_pu hk)
theorem cell_e {a b : Ev → M D} {ρ : Ev} {ns : List Int} {k : Int} (ha : Pu I (a ρ) (.scr ns)) (hb : Pu I (b ρ) (.int k)) (hk : 0 ≤ k) : Pu I (eFn 2 f__law_cell_at [] (aCons a (aCons b aNil)) ρ) (.int (cellV ns k)) :=
  Pu.fn hI (Pu.acons hI ha (Pu.acons hI hb Pu.anil)) rfl (cellV_pu hk)
theorem p12 {ρ : Ev} : Pu I (eBin oPow (eC (.int 10)) (eC (.int 12)) ρ) (.int 1000000000000) := Pu.bin hI Pu.c Pu.c (Pu.pow (by decide))
theorem p6 {ρ : Ev} : Pu I (eBin oPow (eC (.int 10)) (eC (.int 6)) ρ) (.int 1000000) := Pu.bin hI Pu.c Pu.c (Pu.pow (by decide))
theorem p4 {ρ : Ev} : Pu I (eBin oPow (eC (.int 10)) (eC (.int 4)) ρ) (.int 10000) := Pu.bin hI Pu.c Pu.c (Pu.pow (by decide))
end


section
variable {I : Sto → Prop} (hI : Stab I)
include hI
theorem d5 {n m : Int} {e : Ev → M D} {ρ : Ev} (he : Pu I (e (some (.int n) :: ρ)) (.int m)) (hm : 0 < m) : Pu I (eBin oMod (eBin oDiv (eVar 0) (eC (.int 5))) e (some (.int n) :: ρ)) (.int (n / 5 % m)) := Pu.bin hI (Pu.bin hI (Pu.var rfl) Pu.c (Pu.div (by decide) (by decide))) he (Pu.mod hm)
theorem amount_pu (n : Int) : ∃ m, (1 ≤ m ∧ m ≤ 10 ^ 12) ∧ Pu I (f__law_amount [.int n]) (.int m) := by
  obtain ⟨d, hd, ed⟩ := pick (ds := [D.int (n / 5 % 10), D.int (n / 5 % 1000000000000), D.int (n / 5 % 1000), D.int 0, D.int (1000000000000 - 1)]) (k := n % 5) (n := 5) (by omega) (by omega) rfl
  have hb : ∃ z : Int, d = .int z ∧ 0 ≤ z ∧ z < 10 ^ 12 := by
    simp only [List.mem_cons, List.not_mem_nil, or_false] at hd
    rcases hd with rfl | rfl | rfl | rfl | rfl
    · exact ⟨_, rfl, by omega, by omega⟩
    · exact ⟨_, rfl, by omega, by omega⟩
    · exact ⟨_, rfl, by omega, by omega⟩
    · exact ⟨_, rfl, by omega, by omega⟩
    · exact ⟨_, rfl, by omega, by omega⟩
  obtain ⟨z, rfl, z0, z1⟩ := hb
  exact ⟨1 + z, by omega, Pu.run hI (Pu.sret hI (Pu.bin hI Pu.c (PuL.ix hI (PuL.lst hI (Pu.acons hI (d5 hI Pu.c (by decide)) (Pu.acons hI (d5 hI (p12 hI) (by decide)) (Pu.acons hI (d5 hI Pu.c (by decide)) (Pu.acons hI Pu.c (Pu.acons hI (Pu.bin hI (p12 hI) Pu.c Pu.int) Pu.anil))))) (cap_ok rfl)) (Pu.bin hI (Pu.var rfl) Pu.c (Pu.mod (by decide))) ed) Pu.add))⟩
end
noncomputable def amtV (n : Int) : Int := (amount_pu (I := TT) stab_T n).choose
theorem amtV_b (n : Int) : 1 ≤ amtV n ∧ amtV n ≤ 10 ^ 12 := (amount_pu (I := TT) stab_T n).choose_spec.1
theorem amtV_pu {I : Sto → Prop} {n : Int} : Pu I (f__law_amount [.int n]) (.int (amtV n)) := any_I (amount_pu (I := TT) stab_T n).choose_spec.2
structure Ti where
  p : Int
  a : Int
  w : Int
  d : Int
def Ti.D (t : Ti) : L3.D := .tup [.int t.p, .int t.a, .int t.w, .int t.d]
structure Ti.Ok (t : Ti) : Prop where
  p : t.p = 0 ∨ t.p = 1
  a1 : 1 ≤ t.a
  a2 : t.a ≤ 10 ^ 12
  w1 : 0 ≤ t.w
  w2 : t.w ≤ 59
  d1 : 0 ≤ t.d
  d2 : t.d ≤ 10 ^ 6
def dayM (m : Int) : Int := if m % 4 / 3 = 0 then 40 else 1000001
noncomputable def tieV (c : Int) (i : Nat) (w : Int) : Ti := ⟨mixV c (4 * i + 3) / 8 % 2, amtV (mixV c (4 * i) * 991 + mixV c (4 * i + 1)), w, mixV c (4 * i + 2) % dayM (mixV c (4 * i + 3))⟩
theorem tieV_ok (c : Int) (i : Nat) (w : Int) (h1 : 0 ≤ w) (h2 : w ≤ 59) : (tieV c i w).Ok := by
  have hz : 0 < dayM (mixV c (4 * i + 3)) ∧ dayM (mixV c (4 * i + 3)) ≤ 1000001 := by unfold dayM; split <;> omega
  have e1 := Int.emod_nonneg (mixV c (4 * i + 2)) (show dayM (mixV c (4 * i + 3)) ≠ 0 by omega)
  have e2 := Int.emod_lt_of_pos (mixV c (4 * i + 2)) hz.1
  have e3 := amtV_b (mixV c (4 * i) * 991 + mixV c (4 * i + 1))
  exact ⟨by show mixV c (4 * i + 3) / 8 % 2 = 0 ∨ mixV c (4 * i + 3) / 8 % 2 = 1; omega, e3.1, e3.2, h1, h2, e1, by show mixV c (4 * i + 2) % dayM (mixV c (4 * i + 3)) ≤ 10 ^ 6; omega⟩
section
variable {I : Sto → Prop} (hI : Stab I)
include hI
theorem tie_pu {c w : Int} {i n : Nat} {ws : List Int} (hi : ws[i]? = some w) (hn : ∀ σ, I σ → lstAt σ n = some (ws.map D.int)) :
    Pu I (f__law_tie [.int c, .int i, .ref n]) (tieV c i w).D := by
  have k4 : ∀ ρ : Ev, ρ[1]? = some (some (.int i)) → Pu I (eBin oMul (eC (.int 4)) (eVar 1) ρ) (.int (4 * i)) := fun ρ h => Pu.bin hI Pu.c (Pu.var h) (Pu.mulL (by decide) (by decide))
  have k4a : ∀ (ρ : Ev) (z : Int), ρ[1]? = some (some (.int i)) → Pu I (eBin oAdd (eBin oMul (eC (.int 4)) (eVar 1)) (eC (.int z)) ρ) (.int (4 * i + z)) := fun ρ z h => Pu.bin hI (k4 ρ h) Pu.c Pu.add
  have ed : atI [D.int 40, D.int (1000000 + 1)] (mixV c (4 * i + 3) % 4 / 3) = some (.int (dayM (mixV c (4 * i + 3)))) := by
    unfold dayM
    by_cases h : mixV c (4 * i + 3) % 4 / 3 = 0
    · rw [if_pos h, h]; rfl
    · have h1 : mixV c (4 * i + 3) % 4 / 3 = 1 := by omega
      rw [if_neg h, h1]; rfl
  have hz : 0 < dayM (mixV c (4 * i + 3)) := by unfold dayM; split <;> omega
  refine Pu.run hI (Pu.seq hI (Pu.set hI (Pu.fn hI (Pu.acons hI (Pu.bin hI (Pu.bin hI (mix_e hI (Pu.var rfl) (k4 _ rfl) (by omega)) Pu.c (Pu.mulR (by decide) (by decide))) (mix_e hI (Pu.var rfl) (k4a _ 1 rfl) (by omega)) Pu.add) Pu.anil) rfl amtV_pu))
    (Pu.seq hI (Pu.set hI (mix_e hI (Pu.var rfl) (k4a _ 3 rfl) (by omega))) (Pu.seq hI (Pu.set hI (Pu.bin hI (mix_e hI (Pu.var rfl) (k4a _ 2 rfl) (by omega)) (PuL.ix hI (PuL.lst hI (Pu.acons hI Pu.c (Pu.acons hI (Pu.bin hI (p6 hI) Pu.c Pu.add) Pu.anil)) (cap_ok rfl)) (Pu.bin hI (Pu.bin hI (Pu.var rfl) Pu.c (Pu.mod (by decide))) Pu.c (Pu.div (by decide) (by decide))) ed) (Pu.mod hz)))
    (Pu.sret hI (Pu.tup hI (Pu.acons hI (Pu.bin hI (Pu.bin hI (Pu.var rfl) Pu.c (Pu.div (by decide) (by decide))) Pu.c (Pu.mod (by decide))) (Pu.acons hI (Pu.var rfl) (Pu.acons hI (PuL.ix hI (PuL.var rfl hn) (Pu.var rfl) (atI_int (by omega) ?_)) (Pu.acons hI (Pu.var rfl) Pu.anil)))) (cap_ok rfl))))))
  simp [hi]; rfl
theorem inI {a b : Ev → M D} {ρ : Ev} {w : Int} {ws : List Int} {neg : Bool} (ha : Pu I (a ρ) (.int w)) (hb : PuL I (b ρ) (ws.map D.int)) : Pu I (eBin (oIn neg) a b ρ) (.bl (if neg then !(ws.any (· == w)) else ws.any (· == w))) := fun σ hσ => by
  obtain ⟨j, e⟩ := ha σ hσ
  obtain ⟨j', n, e', q⟩ := hb (σ ++ j) (hI _ _ hσ)
  refine ⟨j ++ j', ?_⟩
  have h1 : ∀ l : List Int, (l.map D.int).all isF = true := fun l => by simp [isF, sc]
  have h2 : ∀ l : List Int, ((l.map D.int).any fun z => eqF z (.int w)) = l.any (· == w) := fun l => by simp [eqF, sc, eqV, List.any_map, Function.comp_def]
  unfold eBin L3.bnd; rw [e]; dsimp only; rw [e']; simp only [oIn, seqOf, q, h1, h2, show isF (.int w) = true from rfl, Bool.and_self, if_true]; simp
end
noncomputable def wstep (c : Int) (ws : List Int) (k : Nat) : List Int :=
  let w := (mixV c 40 / 60 + k * (1 + mixV c 41 % 9)) % 60
  if ws.any (· == w) then ws else ws ++ [w]
noncomputable def wordsV (c : Int) : List Int := (List.range (c % 7).toNat).foldl (wstep c) []
/-- words that are right: unlike, of the bounds -/
def WsOk (ws : List Int) : Prop := ws.Nodup ∧ ∀ w ∈ ws, 0 ≤ w ∧ w ≤ 59
theorem wstep_ok {c : Int} {ws : List Int} {k : Nat} (h : WsOk ws) : WsOk (wstep c ws k) ∧ (wstep c ws k).length ≤ ws.length + 1 := by
  unfold wstep
  dsimp only
  generalize hw : (mixV c 40 / 60 + k * (1 + mixV c 41 % 9)) % 60 = w
  by_cases hc : ws.any (· == w) = true
  · rw [if_pos hc]; exact ⟨h, by omega⟩
  · rw [if_neg hc]
    refine ⟨⟨?_, fun x hx => ?_⟩, by simp⟩
    · rw [List.nodup_append]
      refine ⟨h.1, by simp, fun a ha b hb e => hc ?_⟩
      have e' : b = w := by simpa using hb
      rw [List.any_eq_true]
      exact ⟨a, ha, by rw [e, e']; simp⟩
    · rcases List.mem_append.mp hx with z | z
      · exact h.2 x z
      · have e' : x = w := by simpa using z
        rw [e', ← hw]; omega
theorem fold_ok {c : Int} : ∀ (ks : List Nat) (ws : List Int), WsOk ws → WsOk (ks.foldl (wstep c) ws) ∧ (ks.foldl (wstep c) ws).length ≤ ws.length + ks.length
  | [], ws, h => ⟨h, by simp⟩
  | k :: ks, ws, h => by
    obtain ⟨h1, h2⟩ := wstep_ok (c := c) (k := k) h
    obtain ⟨h3, h4⟩ := fold_ok ks (wstep c ws k) h1
    exact ⟨h3, by simp only [List.foldl_cons, List.length_cons]; omega⟩
theorem wordsV_ok (c : Int) : WsOk (wordsV c) ∧ (wordsV c).length ≤ 6 := by
  obtain ⟨h1, h2⟩ := fold_ok (c := c) (List.range (c % 7).toNat) [] ⟨List.nodup_nil, fun _ h => nomatch h⟩
  refine ⟨h1, ?_⟩
  have : (List.range (c % 7).toNat).length = (c % 7).toNat := by simp
  unfold wordsV
  simp only [List.length_nil, List.length_range, Nat.zero_add] at h2
  omega
noncomputable def tiesV (c : Int) : List Ti := (List.range (wordsV c).length).map fun i => tieV (c / 7) i ((wordsV c)[i]?.getD 0)
theorem tiesV_words (c : Int) : (tiesV c).map (·.w) = wordsV c := by
  unfold tiesV
  rw [List.map_map]
  apply List.ext_getElem?
  intro i
  rw [List.getElem?_map]
  by_cases h : i < (wordsV c).length
  · simp [h, tieV]
  · simp [h]
theorem tiesV_ok (c : Int) : (∀ t ∈ tiesV c, t.Ok) ∧ ((tiesV c).map (·.w)).Nodup ∧ (tiesV c).length ≤ 6 := by
  obtain ⟨⟨h1, h2⟩, h3⟩ := wordsV_ok c
  refine ⟨fun t ht => ?_, by rw [tiesV_words]; exact h1, by simp [tiesV]; exact h3⟩
  unfold tiesV at ht
  obtain ⟨i, hi, rfl⟩ := List.mem_map.mp ht
  have hl : i < (wordsV c).length := List.mem_range.mp hi
  have e : (wordsV c)[i]?.getD 0 = (wordsV c)[i] := by simp [hl]
  rw [e]
  have := h2 _ (List.getElem_mem hl)
  exact tieV_ok _ _ _ this.1 this.2

/-- a list at its place in the store -/
theorem at_mid {σ0 j : Sto} {xs : List D} : lstAt (σ0 ++ [.lst xs] ++ j) σ0.length = some xs := lstAt_mid _ _ _
theorem app_at {σ0 j : Sto} {xs : List D} {ρ : Ev} {i k : Nat} {d : D} (hi : ρ[i]? = some (some (.ref σ0.length))) (hk : ρ[k]? = some (some d)) (hl : xs.length < 1000) :
    eMeth oAppend (eVar i) (aCons (eVar k) aNil) ρ (σ0 ++ [.lst xs] ++ j) = .ok .non (σ0 ++ [.lst (xs ++ [d])] ++ j) := by
  unfold eMeth L3.bnd
  have e1 : eVar i ρ (σ0 ++ [.lst xs] ++ j) = .ok (.ref σ0.length) (σ0 ++ [.lst xs] ++ j) := by unfold eVar; rw [hi]
  have e2 : aCons (eVar k) aNil ρ (σ0 ++ [.lst xs] ++ j) = .ok [d] (σ0 ++ [.lst xs] ++ j) := by unfold aCons aNil L3.bnd eVar; rw [hk]; rfl
  rw [e1]
  dsimp only
  rw [if_pos (show (lstAt (σ0 ++ [.lst xs] ++ j) σ0.length).isSome = true by rw [at_mid]; rfl)]
  rw [e2]
  dsimp only
  unfold oAppend
  dsimp only
  rw [at_mid]
  dsimp only
  rw [if_pos (show xs.length < cap from hl), set_mid]
/-- the loop that gathers words -/
theorem words_loop {I : Sto → Prop} (hI : Stab I) (c : Int) (σ0 : Sto) (h0 : I σ0) : ∀ (n i : Nat) (ws : List Int) (x y : Option D) (j : Sto), WsOk ws → ws.length + n ≤ 100 →
    ∃ x' y' j', loop (tgN 2) (sSeq (sSet 3 (eBin oMod (eBin oAdd (eBin oDiv (eFn 2 f__law_mixed [] (aCons (eVar 0) (aCons (eC (.int 40)) aNil))) (eC (.int 60))) (eBin oMul (eVar 2) (eBin oAdd (eC (.int 1)) (eBin oMod (eFn 2 f__law_mixed [] (aCons (eVar 0) (aCons (eC (.int 41)) aNil))) (eC (.int 9)))))) (eC (.int 60))))
      (sIf (eT (eBin (oIn true) (eVar 3) (eVar 1))) (sExp (eMeth oAppend (eVar 1) (aCons (eVar 3) aNil))) sNil)) ((List.range' i n).map fun (k : Nat) => D.int k) [some (.int c), some (.ref σ0.length), x, y] (σ0 ++ [.lst (ws.map D.int)] ++ j)
      = .ok (.nx [some (.int c), some (.ref σ0.length), x', y']) (σ0 ++ [.lst (((List.range' i n).foldl (wstep c) ws).map D.int)] ++ j') := by
  intro n
  induction n with
  | zero => intro i ws x y j _ _; exact ⟨x, y, j, rfl⟩
  | succ n ih =>
    intro i ws x y j hw hn
    have hJ : Stab fun σ => I σ ∧ lstAt σ σ0.length = some (ws.map D.int) := stab_and hI (stab_lst _ _)
    have hσ : I (σ0 ++ [.lst (ws.map D.int)] ++ j) ∧ lstAt (σ0 ++ [.lst (ws.map D.int)] ++ j) σ0.length = some (ws.map D.int) := ⟨hI _ _ (hI _ _ h0), at_mid⟩
    have b9 : -(2 ^ 64) < 1 + mixV c 41 % 9 ∧ 1 + mixV c 41 % 9 < 2 ^ 64 := by omega
    obtain ⟨j1, e1⟩ := (Pu.set (ρ := [some (.int c), some (.ref σ0.length), some (.int i), y]) (i := 3) hJ (Pu.bin hJ (Pu.bin hJ (Pu.bin hJ (mix_e hJ (a := eVar 0) (b := eC (.int 40)) (Pu.var rfl) (Pu.c (d := .int 40)) (by decide)) (Pu.c (d := .int 60)) (Pu.div (by decide) (by decide))) (Pu.bin hJ (a := eVar 2) (Pu.var rfl) (Pu.bin hJ (Pu.c (d := .int 1)) (Pu.bin hJ (mix_e hJ (a := eVar 0) (b := eC (.int 41)) (Pu.var rfl) (Pu.c (d := .int 41)) (by decide)) (Pu.c (d := .int 9)) (Pu.mod (by decide))) Pu.add) (Pu.mulR b9.1 b9.2)) Pu.add) (Pu.c (d := .int 60)) (Pu.mod (by decide)))) _ hσ
    generalize hwd : (mixV c 40 / 60 + (i : Int) * (1 + mixV c 41 % 9)) % 60 = w at e1
    have hσ1 : I (σ0 ++ [.lst (ws.map D.int)] ++ (j ++ j1)) ∧ lstAt (σ0 ++ [.lst (ws.map D.int)] ++ (j ++ j1)) σ0.length = some (ws.map D.int) := ⟨hI _ _ (hI _ _ h0), at_mid⟩
    obtain ⟨j2, e2⟩ := (Pu.eT hJ (inI (neg := true) hJ (ρ := [some (.int c), some (.ref σ0.length), some (.int i), some (.int w)]) (a := eVar 3) (b := eVar 1) (Pu.var rfl) (PuL.var rfl fun _ h => h.2))) _ hσ1
    have er : List.range' i (n + 1) = i :: List.range' (i + 1) n := rfl
    have a1 : σ0 ++ [Ob.lst (ws.map D.int)] ++ j ++ j1 = σ0 ++ [Ob.lst (ws.map D.int)] ++ (j ++ j1) := by simp
    have a2 : σ0 ++ [Ob.lst (ws.map D.int)] ++ (j ++ j1) ++ j2 = σ0 ++ [Ob.lst (ws.map D.int)] ++ (j ++ j1 ++ j2) := by simp
    rw [a1] at e1
    rw [a2] at e2
    have hst : wstep c ws i = if ws.any (· == w) then ws else ws ++ [w] := by unfold wstep; dsimp only; rw [hwd]
    rw [er, List.map_cons, List.foldl_cons]
    have hbody : ∀ (h : Ev → M Fl), sSeq (sSet 3 (eBin oMod (eBin oAdd (eBin oDiv (eFn 2 f__law_mixed [] (aCons (eVar 0) (aCons (eC (.int 40)) aNil))) (eC (.int 60))) (eBin oMul (eVar 2) (eBin oAdd (eC (.int 1)) (eBin oMod (eFn 2 f__law_mixed [] (aCons (eVar 0) (aCons (eC (.int 41)) aNil))) (eC (.int 9)))))) (eC (.int 60)))) h [some (.int c), some (.ref σ0.length), some (.int i), y] (σ0 ++ [.lst (ws.map D.int)] ++ j) = h [some (.int c), some (.ref σ0.length), some (.int i), some (.int w)] (σ0 ++ [.lst (ws.map D.int)] ++ (j ++ j1)) := fun h => sSeq_nx e1
    cases hc : ws.any (· == w) with
    | true =>
      rw [hc] at e2
      rw [hst, hc, if_pos rfl]
      rw [loop_nx rfl ((hbody _).trans ((sIf_f e2).trans rfl))]
      exact ih (i + 1) ws (some (.int i)) (some (.int w)) (j ++ j1 ++ j2) hw (by omega)
    | false =>
      rw [hc] at e2
      have hw' := (wstep_ok (c := c) (k := i) hw).1
      rw [hst, hc, if_neg Bool.false_ne_true] at hw'
      rw [hst, hc, if_neg Bool.false_ne_true]
      rw [loop_nx rfl ((hbody _).trans ((sIf_t e2).trans (sExp_ok (app_at (k := 3) (i := 1) (d := .int w) rfl rfl (by simp; omega)))))]
      have := ih (i + 1) (ws ++ [w]) (some (.int i)) (some (.int w)) (j ++ j1 ++ j2) hw' (by simp; omega)
      rw [List.map_append] at this
      exact this
theorem rangeD_eq (n : Nat) : rangeD n = (List.range' 0 n).map fun (k : Nat) => D.int k := by unfold rangeD; rw [List.range_eq_range']
theorem ties_pu {I : Sto → Prop} (hI : Stab I) (c : Int) : Pu I (f__law_ties [.int c]) (.tup ((tiesV c).map Ti.D)) := fun σ hσ => by
  have hm : 0 ≤ c % 7 ∧ c % 7 < 7 := by omega
  obtain ⟨x', y', j', e⟩ := words_loop hI c σ hσ (c % 7).toNat 0 [] none none [] ⟨List.nodup_nil, fun _ h => nomatch h⟩ (by simp; omega)
  have ew : (List.range' 0 (c % 7).toNat).foldl (wstep c) [] = wordsV c := by unfold wordsV; rw [List.range_eq_range']
  rw [ew] at e
  obtain ⟨⟨w1, w2⟩, w3⟩ := wordsV_ok c
  have hJ : Stab fun s => I s ∧ lstAt s σ.length = some ((wordsV c).map D.int) := stab_and hI (stab_lst _ _)
  have hlc : PuL (fun s => I s ∧ lstAt s σ.length = some ((wordsV c).map D.int)) (eLC (srcR (eCall oLen (aCons (eVar 1) aNil))) [1, 0] (tgN 0) bTrue (eFn 3 f__law_tie [] (aCons (eBin oDiv (eVar 2) (eC (.int 7))) (aCons (eVar 0) (aCons (eVar 1) aNil)))) [some (.int c), some (.ref σ.length), x', y']) (((rangeD (wordsV c).length).filter fun _ => true).map fun d => match d with | .int i => (tieV (c / 7) i.toNat ((wordsV c)[i.toNat]?.getD 0)).D | _ => .non) := by
    refine PuL.lc hJ _ _ (Pu.srcR hJ (PuL.len hJ (PuL.var rfl fun _ h => h.2)) (by rw [List.length_map]; omega) (by rw [List.length_map]; omega)) (fun i s _ => ?_) (fun ρ => ∃ z, ρ = [z, some (.ref σ.length), some (.int c)]) ⟨none, rfl⟩ (fun d hd ρ ⟨z, hz⟩ => ?_) (by rw [rangeD_len]; omega)
    · rw [rangeD_ix]; simp
    · unfold rangeD at hd
      obtain ⟨i, hi, rfl⟩ := List.mem_map.mp hd
      have hl : i < (wordsV c).length := List.mem_range.mp hi
      subst hz
      refine ⟨_, rfl, ⟨_, rfl⟩, Pu.ret, fun _ => Pu.fn hJ (Pu.acons hJ (Pu.bin hJ (Pu.var rfl) Pu.c (Pu.div (by decide) (by decide))) (Pu.acons hJ (Pu.var rfl) (Pu.acons hJ (Pu.var rfl) Pu.anil))) rfl (tie_pu hJ (ws := wordsV c) ?_ fun _ h => h.2)⟩
      simp [hl]
  have hfin : Pu (fun s => I s ∧ lstAt s σ.length = some ((wordsV c).map D.int)) (sRet (eCall oTuple (aCons (eLC (srcR (eCall oLen (aCons (eVar 1) aNil))) [1, 0] (tgN 0) bTrue (eFn 3 f__law_tie [] (aCons (eBin oDiv (eVar 2) (eC (.int 7))) (aCons (eVar 0) (aCons (eVar 1) aNil))))) aNil)) [some (.int c), some (.ref σ.length), x', y']) (.rt (.tup ((tiesV c).map Ti.D))) := by
    refine Pu.sret hJ (to_ hJ (PuL.tuple hJ hlc) ?_)
    congr 1
    unfold tiesV rangeD
    rw [List.filter_eq_self.mpr (by simp), List.map_map, List.map_map]
    rfl
  obtain ⟨j2, e2⟩ := hfin _ ⟨hI _ _ (hI _ [.lst ((wordsV c).map D.int)] hσ), at_mid (j := j')⟩
  refine ⟨[.lst ((wordsV c).map D.int)] ++ j' ++ j2, ?_⟩
  have e0 : (sSet 1 (eLst aNil)) [some (.int c), none, none, none] σ = .ok (.nx [some (.int c), some (.ref σ.length), none, none]) (σ ++ [.lst []]) := rfl
  have eN : (eBin oMod (eVar 0) (eC (.int 7))) [some (.int c), some (.ref σ.length), none, none] (σ ++ [.lst []]) = .ok (.int (c % 7)) (σ ++ [.lst []]) := rfl
  rw [List.map_nil, List.append_nil] at e
  rw [← rangeD_eq] at e
  refine run_rt ?_
  refine (sSeq_nx e0).trans ((sSeq_nx ((sForR_ok eN (by omega) (by omega)).trans e)).trans (e2.trans ?_))
  simp


section
variable {I : Sto → Prop} (hI : Stab I)
include hI
theorem d4 {n m : Int} {e : Ev → M D} {ρ : Ev} (he : Pu I (e (some (.int n) :: ρ)) (.int m)) (hm : 0 < m) : Pu I (eBin oMod (eBin oDiv (eVar 0) (eC (.int 4))) e (some (.int n) :: ρ)) (.int (n / 4 % m)) := Pu.bin hI (Pu.bin hI (Pu.var rfl) Pu.c (Pu.div (by decide) (by decide))) he (Pu.mod hm)
theorem share_pu (n : Int) : ∃ m, (0 ≤ m ∧ m ≤ 2000000000000) ∧ Pu I (f__law_share [.int n]) (.int m) := by
  obtain ⟨d, hd, ed⟩ := pick (ds := [D.int (n / 4 % 50), D.int 0, D.int (n / 4 % 1000000000000), D.int (n / 4 % 10000)]) (k := n % 4) (n := 4) (by omega) (by omega) rfl
  have hb : ∃ z : Int, d = .int z ∧ 0 ≤ z ∧ z < 10 ^ 12 := by
    simp only [List.mem_cons, List.not_mem_nil, or_false] at hd
    rcases hd with rfl | rfl | rfl | rfl
    · exact ⟨_, rfl, by omega, by omega⟩
    · exact ⟨_, rfl, by omega, by omega⟩
    · exact ⟨_, rfl, by omega, by omega⟩
    · exact ⟨_, rfl, by omega, by omega⟩
  obtain ⟨z, rfl, z0, z1⟩ := hb
  exact ⟨z, by omega, Pu.run hI (Pu.sret hI (PuL.ix hI (PuL.lst hI (Pu.acons hI (d4 hI Pu.c (by decide)) (Pu.acons hI Pu.c (Pu.acons hI (d4 hI (p12 hI) (by decide)) (Pu.acons hI (d4 hI (p4 hI) (by decide)) Pu.anil)))) (cap_ok rfl)) (Pu.bin hI (Pu.var rfl) Pu.c (Pu.mod (by decide))) ed))⟩
end


noncomputable def shareV (n : Int) : Int := (share_pu (I := TT) stab_T n).choose
theorem shareV_b (n : Int) : 0 ≤ shareV n ∧ shareV n ≤ 2000000000000 := (share_pu (I := TT) stab_T n).choose_spec.1
theorem shareV_pu {I : Sto → Prop} {n : Int} : Pu I (f__law_share [.int n]) (.int (shareV n)) := any_I (share_pu (I := TT) stab_T n).choose_spec.2
/-- a stand as data -/
def stD (n a b : Int) (ts : List Ti) : D := .tup [.int n, .tup [.int a, .int b], .tup (ts.map Ti.D)]
noncomputable def stA (c : Int) : Int := shareV (mixV c 50 * 977 + 3)
noncomputable def stB (c : Int) : Int := shareV (mixV c 51 * 983 + mixV c 52)
theorem stand_pu {I : Sto → Prop} (hI : Stab I) (n c : Int) : Pu I (f__law_stand [.int n, .int c]) (stD n (stA c) (stB c) (tiesV (c / 3))) :=
  Pu.run hI (Pu.seq hI (Pu.set hI (Pu.tup hI (Pu.acons hI (Pu.fn hI (Pu.acons hI (Pu.bin hI (Pu.bin hI (mix_e hI (Pu.var rfl) Pu.c (by decide)) Pu.c (Pu.mulR (by decide) (by decide))) Pu.c Pu.add) Pu.anil) rfl shareV_pu)
    (Pu.acons hI (Pu.fn hI (Pu.acons hI (Pu.bin hI (Pu.bin hI (mix_e hI (Pu.var rfl) Pu.c (by decide)) Pu.c (Pu.mulR (by decide) (by decide))) (mix_e hI (Pu.var rfl) Pu.c (by decide)) Pu.add) Pu.anil) rfl shareV_pu) Pu.anil)) (cap_ok rfl)))
    (Pu.sret hI (Pu.tup hI (Pu.acons hI (Pu.var rfl) (Pu.acons hI (Pu.var rfl) (Pu.acons hI (Pu.fn hI (Pu.acons hI (Pu.bin hI (Pu.var rfl) Pu.c (Pu.div (by decide) (by decide))) Pu.anil) rfl (ties_pu hI _)) Pu.anil))) (cap_ok rfl))))

/-! going on through a block, the last store left open -/
section
variable {I : Sto → Prop} {ρ ρ' : Ev} {σ σ1 : Sto} {g h : Ev → M Fl} {f : Ev → M D} {x : Fl}
def Ends (h : Ev → M Fl) (ρ : Ev) (σ : Sto) (x : Fl) : Prop := ∃ σ', h ρ σ = .ok x σ'
theorem ex_seq (hσ : I σ) (hg : Pu I (g ρ) (.nx ρ')) (k : ∀ j, Ends h ρ' (σ ++ j) x) : Ends (sSeq g h) ρ σ x := by
  obtain ⟨j, e⟩ := hg σ hσ
  obtain ⟨σ', e'⟩ := k j
  exact ⟨σ', (sSeq_nx e).trans e'⟩
theorem ex_raw (e : g ρ σ = .ok (.nx ρ') σ1) (k : Ends h ρ' σ1 x) : Ends (sSeq g h) ρ σ x := by
  obtain ⟨σ', e'⟩ := k
  exact ⟨σ', (sSeq_nx e).trans e'⟩
theorem ex_lst {i : Nat} {ds : List D} (hσ : I σ) (hf : PuL I (f ρ) ds) (k : ∀ j n, lstAt (σ ++ j) n = some ds → Ends h (ρ.set i (some (.ref n))) (σ ++ j) x) : Ends (sSeq (sSet i f) h) ρ σ x := by
  obtain ⟨j, n, e, q⟩ := hf σ hσ
  exact ex_raw (sSet_ok e) (k j n q)
theorem ex_new {i : Nat} {a : Ev → M (List D)} {ds : List D} (hσ : I σ) (ha : Pu I (a ρ) ds) (hl : ds.length ≤ cap) (k : ∀ j, Ends h (ρ.set i (some (.ref (σ ++ j).length))) (σ ++ j ++ [.lst ds]) x) : Ends (sSeq (sSet i (eLst a)) h) ρ σ x := by
  obtain ⟨j, e⟩ := ha σ hσ
  refine ex_raw (sSet_ok (d := .ref (σ ++ j).length) (σ' := σ ++ j ++ [.lst ds]) ?_) (k j)
  unfold eLst L3.bnd; rw [e]; simp only [hl, if_true, mkLst]
theorem ex_ret {d : D} (hσ : I σ) (hf : Pu I (f ρ) d) : Ends (sRet f) ρ σ (.rt d) := by
  obtain ⟨j, e⟩ := hf σ hσ
  exact ⟨_, sRet_ok e⟩
end
theorem Pu.loop1 {I : Sto → Prop} (hI : Stab I) {tg : D → Ev → Option Ev} {g : Ev → M Fl} {d : D} {ds : List D} {ρ ρ1 ρ2 : Ev} {x : Fl} (ht : tg d ρ = some ρ1) (h : Pu I (g ρ1) (.nx ρ2)) (h' : Pu I (loop tg g ds ρ2) x) : Pu I (loop tg g (d :: ds) ρ) x := by
  intro σ hσ
  obtain ⟨j, e⟩ := h σ hσ
  obtain ⟨j', e'⟩ := h' (σ ++ j) (hI _ _ hσ)
  exact ⟨j ++ j', by rw [loop_nx ht e, e']; simp⟩
theorem Pu.forT {I : Sto → Prop} (hI : Stab I) {f : Ev → M D} {tg : D → Ev → Option Ev} {g : Ev → M Fl} {ds : List D} {ρ : Ev} {x : Fl} (hf : Pu I (f ρ) (.tup ds)) (h : Pu I (loop tg g ds ρ) x) : Pu I (sForT f tg g ρ) x := hf.bnd hI h

/-! what the program gives -/
def payS (ws : List Int) (s : Int × Int) (t : Ti) : Int × Int :=
  if (if ws.any (· == t.w) then 1 - t.p else t.p) = 0 then (s.1 + t.a, s.2) else (s.1, s.2 + t.a)
section
variable {I : Sto → Prop} (hI : Stab I)
include hI
theorem with_more_pu (a b s m : Int) : Pu I (f_with_more [.tup [.int a, .int b], .int s, .int m]) (if s = 0 then .tup [.int (a + m), .int b] else .tup [.int a, .int (b + m)]) := by
  have t0 : Pu I (eBin oEq (eVar 1) (eC (.int 0)) [some (.tup [.int a, .int b]), some (.int s), some (.int m)]) (.bl (s == 0)) := Pu.bin hI (Pu.var rfl) Pu.c Pu.eqI
  have x0 : Pu I (eBin oIx (eVar 0) (eC (.int 0)) [some (.tup [.int a, .int b]), some (.int s), some (.int m)]) (.int a) := Pu.ixT hI (Pu.var rfl) Pu.c rfl
  have x1 : Pu I (eBin oIx (eVar 0) (eC (.int 1)) [some (.tup [.int a, .int b]), some (.int s), some (.int m)]) (.int b) := Pu.ixT hI (Pu.var rfl) Pu.c rfl
  by_cases h : s = 0
  · rw [if_pos h]
    exact Pu.run hI (Pu.seqR hI (Pu.sifT hI (Pu.eT hI (to_ hI t0 (by simp [h]))) (Pu.sret hI (Pu.tup hI (Pu.acons hI (Pu.bin hI x0 (Pu.var rfl) Pu.add) (Pu.acons hI x1 Pu.anil)) (cap_ok rfl)))))
  · rw [if_neg h]
    exact Pu.run hI (Pu.seq hI (Pu.sifF hI (Pu.eT hI (to_ hI t0 (by simp [h]))) Pu.nil) (Pu.sret hI (Pu.tup hI (Pu.acons hI x0 (Pu.acons hI (Pu.bin hI x1 (Pu.var rfl) Pu.add) Pu.anil)) (cap_ok rfl))))
theorem comes_loop (one : D) (m : Nat) (ws : List Int) (hm : ∀ σ, I σ → lstAt σ m = some (ws.map D.int)) : ∀ (ts : List Ti) (s : Int × Int) (x y : Option D), ∃ x' y',
    Pu I (loop (tgN 3) (sSeq (sSet 4 (eIf (eT (eBin (oIn false) (eBin oIx (eVar 3) (eC (.int 2))) (eVar 1))) (eFn 1 f_other_side [] (aCons (eBin oIx (eVar 3) (eC (.int 0))) aNil)) (eBin oIx (eVar 3) (eC (.int 0)))))
      (sSet 2 (eFn 3 f_with_more [] (aCons (eVar 2) (aCons (eVar 4) (aCons (eBin oIx (eVar 3) (eC (.int 1))) aNil)))))) (ts.map Ti.D) [some one, some (.ref m), some (.tup [.int s.1, .int s.2]), x, y])
      (.nx [some one, some (.ref m), some (.tup [.int (ts.foldl (payS ws) s).1, .int (ts.foldl (payS ws) s).2]), x', y']) := by
  intro ts
  induction ts with
  | nil => intro s x y; exact ⟨x, y, Pu.ret⟩
  | cons t ts ih =>
    intro s x y
    obtain ⟨x', y', h⟩ := ih (payS ws s t) (some t.D) (some (.int (if ws.any (· == t.w) then 1 - t.p else t.p)))
    refine ⟨x', y', Pu.loop1 hI rfl (Pu.seq hI (ρ' := [some one, some (.ref m), some (.tup [.int s.1, .int s.2]), some t.D, some (.int (if ws.any (· == t.w) then 1 - t.p else t.p))]) (Pu.set hI ?_) (to_ hI (Pu.set hI (Pu.fn hI (Pu.acons hI (Pu.var rfl) (Pu.acons hI (Pu.var rfl) (Pu.acons hI (Pu.ixT hI (xs := [.int t.p, .int t.a, .int t.w, .int t.d]) (Pu.var rfl) Pu.c rfl) Pu.anil))) rfl (with_more_pu hI _ _ _ _))) ?_)) h⟩
    · have h0 : Pu I (eBin oIx (eVar 3) (eC (.int 0)) [some one, some (.ref m), some (.tup [.int s.1, .int s.2]), some t.D, y]) (.int t.p) := Pu.ixT hI (xs := [.int t.p, .int t.a, .int t.w, .int t.d]) (Pu.var rfl) Pu.c rfl
      have h2 : Pu I (eBin (oIn false) (eBin oIx (eVar 3) (eC (.int 2))) (eVar 1) [some one, some (.ref m), some (.tup [.int s.1, .int s.2]), some t.D, y]) (.bl (ws.any (· == t.w))) := inI (neg := false) hI (Pu.ixT hI (xs := [.int t.p, .int t.a, .int t.w, .int t.d]) (Pu.var rfl) Pu.c rfl) (PuL.var rfl hm)
      cases hc : ws.any (· == t.w) with
      | true => exact Pu.ifT hI (Pu.eT hI (to_ hI h2 (by rw [hc]))) (Pu.fn hI (Pu.acons hI h0 Pu.anil) rfl (Pu.run hI (Pu.sret hI (Pu.bin hI Pu.c (Pu.var rfl) Pu.int))))
      | false => exact Pu.ifF hI (Pu.eT hI (to_ hI h2 (by rw [hc]))) h0
    · unfold payS
      dsimp only [List.set]
      generalize (if ws.any (· == t.w) = true then 1 - t.p else t.p) = q
      by_cases hq : q = 0 <;> simp [hq]
theorem comes_pu (n a b : Int) (ts : List Ti) (m : Nat) (ws : List Int) (hm : ∀ σ, I σ → lstAt σ m = some (ws.map D.int)) :
    Pu I (f_comes_to [stD n a b ts, .ref m]) (.tup [.int (ts.foldl (payS ws) (a, b)).1, .int (ts.foldl (payS ws) (a, b)).2]) := by
  obtain ⟨x', y', h⟩ := comes_loop hI (stD n a b ts) m ws hm ts (a, b) none none
  exact Pu.run hI (Pu.seq hI (Pu.set hI (Pu.ixT hI (Pu.var rfl) Pu.c rfl)) (Pu.seq hI (Pu.forT hI (Pu.ixT hI (Pu.var rfl) Pu.c rfl) h) (Pu.sret hI (Pu.var rfl))))
end

/-! the law -/
theorem cntI {I : Sto → Prop} {ρ : Ev} {i k n : Nat} {w : Int} {ws : List Int} (hi : ρ[i]? = some (some (.ref n))) (hk : ρ[k]? = some (some (.int w))) (hn : ∀ σ, I σ → lstAt σ n = some (ws.map D.int)) :
    Pu I (eMeth oCount (eVar i) (aCons (eVar k) aNil) ρ) (.int (ws.countP (· == w) : Nat)) := fun σ hσ => by
  refine ⟨[], ?_⟩
  have e1 : eVar i ρ σ = .ok (.ref n) σ := by unfold eVar; rw [hi]
  have e2 : aCons (eVar k) aNil ρ σ = .ok [.int w] σ := by unfold aCons aNil L3.bnd eVar; rw [hk]; rfl
  have h1 : ∀ l : List Int, (l.map D.int).all isF = true := fun l => by simp [isF, sc]
  have h2 : ∀ l : List Int, ((l.map D.int).countP fun z => eqF z (.int w)) = l.countP (· == w) := fun l => by simp [eqF, sc, eqV, List.countP_map, Function.comp_def]
  unfold eMeth L3.bnd
  rw [e1]
  dsimp only
  rw [if_pos (show (lstAt σ n).isSome = true by rw [hn σ hσ]; rfl), e2]
  unfold oCount
  dsimp only
  rw [hn σ hσ]
  dsimp only
  rw [if_pos (by rw [h1]; rfl), h2]
  simp
theorem cnt_any (ws : List Int) (w : Int) : decide ((0 : Int) < (ws.countP (· == w) : Nat)) = ws.any (· == w) := by
  rw [Bool.eq_iff_iff, decide_eq_true_iff, List.any_eq_true]
  have : (0 : Int) < ((ws.countP (· == w) : Nat) : Int) ↔ 0 < ws.countP (· == w) := by omega
  rw [this, List.countP_pos_iff]
theorem setL_at {σ0 j : Sto} {ρ : Ev} {x y a s : Int} (h7 : ρ[7]? = some (some (.ref σ0.length))) (h12 : ρ[12]? = some (some (.int s))) (h9 : ρ[9]? = some (some (.int a))) (hs : s = 0 ∨ s = 1) :
    sSetL (eBin oAdd (eBin oIx (eVar 7) (eVar 12)) (eVar 9)) (eVar 7) (eVar 12) ρ (σ0 ++ [.lst [.int x, .int y]] ++ j) = .ok (.nx ρ) (σ0 ++ [.lst (if s = 0 then [.int (x + a), .int y] else [.int x, .int (y + a)])] ++ j) := by
  have e7 : ∀ τ, eVar 7 ρ τ = .ok (.ref σ0.length) τ := fun τ => by unfold eVar; rw [h7]
  have e12 : ∀ τ, eVar 12 ρ τ = .ok (.int s) τ := fun τ => by unfold eVar; rw [h12]
  have e9 : ∀ τ, eVar 9 ρ τ = .ok (.int a) τ := fun τ => by unfold eVar; rw [h9]
  have hl := at_mid (σ0 := σ0) (j := j) (xs := [.int x, .int y])
  unfold sSetL eBin L3.bnd
  simp only [e7, e12, e9, oIx, seqOf, hl]
  rcases hs with rfl | rfl
  · have e : atI [D.int x, D.int y] 0 = some (.int x) := rfl
    have e' : ixN [D.int x, D.int y].length 0 = some 0 := rfl
    simp only [e, oAdd, oSetL, hl, e', L3.ret]
    rw [set_mid]; rfl
  · have e : atI [D.int x, D.int y] 1 = some (.int y) := rfl
    have e' : ixN [D.int x, D.int y].length 1 = some 1 := rfl
    simp only [e, oAdd, oSetL, hl, e', L3.ret]
    rw [set_mid]; rfl
theorem eqL_refl {f : D → D → Option Bool} : ∀ {l : List D}, (∀ x ∈ l, f x x = some true) → eqL f l l = some true
  | [], _ => rfl
  | x :: l, h => by
    unfold eqL
    rw [h x List.mem_cons_self, eqL_refl fun y hy => h y (List.mem_cons_of_mem _ hy)]
    rfl
theorem eq0_int (n : Nat) (i : Int) : eq0 n (.int i) (.int i) = some true := by cases n <;> simp [eq0, sc, eqV]
theorem eq0_tie (n : Nat) (t : Ti) : eq0 (n + 1) t.D t.D = some true := by
  show eqL (eq0 n) [.int t.p, .int t.a, .int t.w, .int t.d] [.int t.p, .int t.a, .int t.w, .int t.d] = some true
  exact eqL_refl fun x hx => by
    simp only [List.mem_cons, List.not_mem_nil, or_false] at hx
    rcases hx with rfl | rfl | rfl | rfl <;> exact eq0_int _ _
theorem eqS_st (σ : Sto) (n a b : Int) (ts : List Ti) : eqS σ (stD n a b ts) (stD n a b ts) = some true := by
  show eqL (eq0 7) [.int n, .tup [.int a, .int b], .tup (ts.map Ti.D)] [.int n, .tup [.int a, .int b], .tup (ts.map Ti.D)] = some true
  exact eqL_refl fun x hx => by
    simp only [List.mem_cons, List.not_mem_nil, or_false] at hx
    rcases hx with rfl | rfl | rfl
    · exact eq0_int _ _
    · show eqL (eq0 6) [.int a, .int b] [.int a, .int b] = some true
      exact eqL_refl fun x hx => by
        simp only [List.mem_cons, List.not_mem_nil, or_false] at hx
        rcases hx with rfl | rfl <;> exact eq0_int _ _
    · show eqL (eq0 6) (ts.map Ti.D) (ts.map Ti.D) = some true
      exact eqL_refl fun x hx => by
        obtain ⟨t, _, rfl⟩ := List.mem_map.mp hx
        exact eq0_tie 5 t
/-- the loop over the ties, the law's own -/
theorem due_loop {σ0 : Sto} {nw : Nat} {ws : List Int} (hw : lstAt σ0 nw = some (ws.map D.int)) (a0 a1 a2 a3 a5 a6 : Option D) : ∀ (ts : List Ti) (s : Int × Int) (b8 b9 b10 b11 b12 : Option D) (j : Sto), (∀ t ∈ ts, t.Ok) → ∃ c8 c9 c10 c11 c12 j',
    loop (tgT 4 (tgCons (tgN 8) (tgCons (tgN 9) (tgCons (tgN 10) (tgCons (tgN 11) tgNil))))) (sSeq (sSet 12 (eVar 8))
      (sSeq (sIf (eT (eBin oGt (eMeth oCount (eVar 4) (aCons (eVar 10) aNil)) (eC (.int 0)))) (sSet 12 (eBin oIx (eLst (aCons (eC (.int 1)) (aCons (eC (.int 0)) aNil))) (eVar 8))) sNil)
      (sSetL (eBin oAdd (eBin oIx (eVar 7) (eVar 12)) (eVar 9)) (eVar 7) (eVar 12)))) (ts.map Ti.D) [a0, a1, a2, a3, some (.ref nw), a5, a6, some (.ref σ0.length), b8, b9, b10, b11, b12, none, none, none, none] (σ0 ++ [.lst [.int s.1, .int s.2]] ++ j)
      = .ok (.nx [a0, a1, a2, a3, some (.ref nw), a5, a6, some (.ref σ0.length), c8, c9, c10, c11, c12, none, none, none, none]) (σ0 ++ [.lst [.int (ts.foldl (payS ws) s).1, .int (ts.foldl (payS ws) s).2]] ++ j') := by
  intro ts
  induction ts with
  | nil => intro s b8 b9 b10 b11 b12 j _; exact ⟨_, _, _, _, _, j, rfl⟩
  | cons t ts ih =>
    intro s b8 b9 b10 b11 b12 j ht
    have hJ : Stab fun σ => lstAt σ nw = some (ws.map D.int) := stab_lst _ _
    have hσ : lstAt (σ0 ++ [.lst [.int s.1, .int s.2]] ++ j) nw = some (ws.map D.int) := lstAt_app (lstAt_app hw)
    have tp := (ht t List.mem_cons_self).p
    have h1 : Pu (fun σ => lstAt σ nw = some (ws.map D.int)) (sSet 12 (eVar 8) [a0, a1, a2, a3, some (.ref nw), a5, a6, some (.ref σ0.length), some (.int t.p), some (.int t.a), some (.int t.w), some (.int t.d), b12, none, none, none, none]) (.nx [a0, a1, a2, a3, some (.ref nw), a5, a6, some (.ref σ0.length), some (.int t.p), some (.int t.a), some (.int t.w), some (.int t.d), some (.int t.p), none, none, none, none]) := Pu.set hJ (Pu.var rfl)
    have h2 : Pu (fun σ => lstAt σ nw = some (ws.map D.int)) (sIf (eT (eBin oGt (eMeth oCount (eVar 4) (aCons (eVar 10) aNil)) (eC (.int 0)))) (sSet 12 (eBin oIx (eLst (aCons (eC (.int 1)) (aCons (eC (.int 0)) aNil))) (eVar 8))) sNil [a0, a1, a2, a3, some (.ref nw), a5, a6, some (.ref σ0.length), some (.int t.p), some (.int t.a), some (.int t.w), some (.int t.d), some (.int t.p), none, none, none, none])
        (.nx [a0, a1, a2, a3, some (.ref nw), a5, a6, some (.ref σ0.length), some (.int t.p), some (.int t.a), some (.int t.w), some (.int t.d), some (.int (if ws.any (· == t.w) then 1 - t.p else t.p)), none, none, none, none]) := by
      have tt : Pu (fun σ => lstAt σ nw = some (ws.map D.int)) (eBin oGt (eMeth oCount (eVar 4) (aCons (eVar 10) aNil)) (eC (.int 0)) [a0, a1, a2, a3, some (.ref nw), a5, a6, some (.ref σ0.length), some (.int t.p), some (.int t.a), some (.int t.w), some (.int t.d), some (.int t.p), none, none, none, none]) (.bl (ws.any (· == t.w))) := by
        rw [← cnt_any]; exact Pu.bin hJ (cntI (ws := ws) rfl rfl fun _ h => h) Pu.c Pu.intB
      cases hc : ws.any (· == t.w) with
      | true =>
        refine Pu.sifT hJ (Pu.eT hJ (to_ hJ tt (by rw [hc]))) (Pu.set hJ (PuL.ix hJ (PuL.lst hJ (Pu.acons hJ Pu.c (Pu.acons hJ Pu.c Pu.anil)) (cap_ok rfl)) (Pu.var rfl) ?_))
        rcases tp with h | h <;> rw [h] <;> rfl
      | false => exact Pu.sifF hJ (Pu.eT hJ (to_ hJ tt (by rw [hc]))) Pu.nil
    obtain ⟨j1, e1⟩ := h1 _ hσ
    obtain ⟨j2, e2⟩ := h2 _ (lstAt_app (j := j1) hσ)
    have ea : σ0 ++ [Ob.lst [.int s.1, .int s.2]] ++ j ++ j1 ++ j2 = σ0 ++ [Ob.lst [.int s.1, .int s.2]] ++ (j ++ j1 ++ j2) := by simp
    rw [ea] at e2
    have e3 := setL_at (σ0 := σ0) (j := j ++ j1 ++ j2) (x := s.1) (y := s.2) (a := t.a) (s := if ws.any (· == t.w) then 1 - t.p else t.p) (ρ := [a0, a1, a2, a3, some (.ref nw), a5, a6, some (.ref σ0.length), some (.int t.p), some (.int t.a), some (.int t.w), some (.int t.d), some (.int (if ws.any (· == t.w) then 1 - t.p else t.p)), none, none, none, none]) rfl rfl rfl (by split <;> omega)
    have ep : (if (if ws.any (· == t.w) then 1 - t.p else t.p) = 0 then [D.int (s.1 + t.a), .int s.2] else [.int s.1, .int (s.2 + t.a)]) = [.int (payS ws s t).1, .int (payS ws s t).2] := by
      unfold payS
      generalize (if ws.any (· == t.w) = true then 1 - t.p else t.p) = q
      by_cases hq : q = 0 <;> simp [hq]
    rw [ep] at e3
    obtain ⟨c8, c9, c10, c11, c12, j', e4⟩ := ih (payS ws s t) (some (.int t.p)) (some (.int t.a)) (some (.int t.w)) (some (.int t.d)) (some (.int (if ws.any (· == t.w) then 1 - t.p else t.p))) (j ++ j1 ++ j2) fun u hu => ht u (List.mem_cons_of_mem _ hu)
    exact ⟨c8, c9, c10, c11, c12, j', (loop_nx rfl ((sSeq_nx e1).trans ((sSeq_nx e2).trans e3))).trans e4⟩

theorem app_pu {J : Sto → Prop} {σ0 j : Sto} {xs : List D} {ρ : Ev} {i : Nat} {e : Ev → M D} {d : D} (hi : ρ[i]? = some (some (.ref σ0.length))) (he : Pu J (e ρ) d) (hJ : J (σ0 ++ [.lst xs] ++ j)) (hl : xs.length < 1000) :
    ∃ j1, eMeth oAppend (eVar i) (aCons e aNil) ρ (σ0 ++ [.lst xs] ++ j) = .ok .non (σ0 ++ [.lst (xs ++ [d])] ++ (j ++ j1)) := by
  obtain ⟨j1, e1⟩ := he _ hJ
  refine ⟨j1, ?_⟩
  have a1 : σ0 ++ [Ob.lst xs] ++ j ++ j1 = σ0 ++ [Ob.lst xs] ++ (j ++ j1) := by simp
  rw [a1] at e1
  have e0 : eVar i ρ (σ0 ++ [.lst xs] ++ j) = .ok (.ref σ0.length) (σ0 ++ [.lst xs] ++ j) := by unfold eVar; rw [hi]
  have e2 : aCons e aNil ρ (σ0 ++ [.lst xs] ++ j) = .ok [d] (σ0 ++ [.lst xs] ++ (j ++ j1)) := by unfold aCons aNil L3.bnd; rw [e1]; rfl
  unfold eMeth L3.bnd
  rw [e0]
  dsimp only
  rw [if_pos (show (lstAt (σ0 ++ [.lst xs] ++ j) σ0.length).isSome = true by rw [at_mid]; rfl), e2]
  dsimp only
  unfold oAppend
  dsimp only
  rw [at_mid]
  dsimp only
  rw [if_pos (show xs.length < cap from hl), set_mid]
theorem law_words {σ0 : Sto} {nm : Nat} {mine : List Int} (hm : lstAt σ0 nm = some (mine.map D.int)) (hl : mine.length ≤ 6) (ns : List Int) (a1 a2 : Option D) : ∀ (n i : Nat) (ws : List Int) (x y : Option D) (j : Sto), ws.length + n ≤ 100 → ∃ (ws' : List Int) (x' y' : Option D) (j' : Sto),
    loop (tgN 5) (sSeq (sSet 6 (eFn 2 f__law_mixed [] (aCons (eBin oDiv (eFn 2 f__law_cell_at [] (aCons (eVar 0) (aCons (eC (.int 2)) aNil))) (eC (.int 9))) (aCons (eVar 5) aNil))))
      (sExp (eMeth oAppend (eVar 4) (aCons (eBin oIx (eBin oAdd (eLst (aCons (eBin oMod (eBin oDiv (eVar 6) (eC (.int 3))) (eC (.int 60))) aNil)) (eVar 3)) (eBin oMod (eVar 6) (eBin oAdd (eC (.int 1)) (eCall oLen (aCons (eVar 3) aNil))))) aNil)))) ((List.range' i n).map fun (k : Nat) => D.int k)
      [some (.scr ns), a1, a2, some (.ref nm), some (.ref σ0.length), x, y, none, none, none, none, none, none, none, none, none, none] (σ0 ++ [.lst (ws.map D.int)] ++ j)
      = .ok (.nx [some (.scr ns), a1, a2, some (.ref nm), some (.ref σ0.length), x', y', none, none, none, none, none, none, none, none, none, none]) (σ0 ++ [.lst (ws'.map D.int)] ++ j') := by
  intro n
  induction n with
  | zero => intro i ws x y j _; exact ⟨ws, x, y, j, rfl⟩
  | succ n ih =>
    intro i ws x y j hn
    have hJ : Stab fun σ => lstAt σ nm = some (mine.map D.int) := stab_lst _ _
    have hσ : lstAt (σ0 ++ [.lst (ws.map D.int)] ++ j) nm = some (mine.map D.int) := lstAt_app (lstAt_app hm)
    have h1 : Pu (fun σ => lstAt σ nm = some (mine.map D.int)) (sSet 6 (eFn 2 f__law_mixed [] (aCons (eBin oDiv (eFn 2 f__law_cell_at [] (aCons (eVar 0) (aCons (eC (.int 2)) aNil))) (eC (.int 9))) (aCons (eVar 5) aNil))) [some (.scr ns), a1, a2, some (.ref nm), some (.ref σ0.length), some (.int i), y, none, none, none, none, none, none, none, none, none, none])
        (.nx [some (.scr ns), a1, a2, some (.ref nm), some (.ref σ0.length), some (.int i), some (.int (mixV (cellV ns 2 / 9) i)), none, none, none, none, none, none, none, none, none, none]) :=
      Pu.set hJ (mix_e hJ (Pu.bin hJ (cell_e hJ (Pu.var rfl) Pu.c (by decide)) Pu.c (Pu.div (by decide) (by decide))) (Pu.var rfl) (by omega))
    generalize mixV (cellV ns 2 / 9) i = q at h1
    obtain ⟨j1, e1⟩ := h1 _ hσ
    have ea : σ0 ++ [Ob.lst (ws.map D.int)] ++ j ++ j1 = σ0 ++ [Ob.lst (ws.map D.int)] ++ (j ++ j1) := by simp
    rw [ea] at e1
    have hq0 := Int.emod_nonneg q (show (1 + (mine.length : Int)) ≠ 0 by omega)
    have hq1 := Int.emod_lt_of_pos q (show (0 : Int) < 1 + (mine.length : Int) by omega)
    have hk : (q % (1 + (mine.length : Int))).toNat < ((q / 3 % 60) :: mine).length := by simp; omega
    have hd : ∃ z : Int, atI ([D.int (q / 3 % 60)] ++ mine.map D.int) (q % (1 + ((mine.map D.int).length : Nat))) = some (.int z) := by
      refine ⟨((q / 3 % 60) :: mine)[(q % (1 + (mine.length : Int))).toNat]'hk, atI_int (by rw [List.length_map]; exact hq0) ?_⟩
      have e : [D.int (q / 3 % 60)] ++ mine.map D.int = ((q / 3 % 60) :: mine).map D.int := rfl
      rw [e, List.getElem?_map, List.length_map, List.getElem?_eq_getElem hk]; rfl
    obtain ⟨z, hz⟩ := hd
    obtain ⟨j2, e2⟩ := app_pu (J := fun σ => lstAt σ nm = some (mine.map D.int)) (σ0 := σ0) (j := j ++ j1) (xs := ws.map D.int) (i := 4) (d := .int z)
      (ρ := [some (.scr ns), a1, a2, some (.ref nm), some (.ref σ0.length), some (.int i), some (.int q), none, none, none, none, none, none, none, none, none, none])
      (e := eBin oIx (eBin oAdd (eLst (aCons (eBin oMod (eBin oDiv (eVar 6) (eC (.int 3))) (eC (.int 60))) aNil)) (eVar 3)) (eBin oMod (eVar 6) (eBin oAdd (eC (.int 1)) (eCall oLen (aCons (eVar 3) aNil))))) rfl
      (PuL.ix hJ (PuL.add hJ (PuL.lst hJ (Pu.acons hJ (Pu.bin hJ (Pu.bin hJ (Pu.var rfl) Pu.c (Pu.div (by decide) (by decide))) Pu.c (Pu.mod (by decide))) Pu.anil) (cap_ok rfl)) (PuL.var rfl fun _ h => h) (by simp [cap]; omega)) (Pu.bin hJ (Pu.var rfl) (Pu.bin hJ Pu.c (PuL.len hJ (PuL.var rfl fun _ h => h)) Pu.add) (Pu.mod (by rw [List.length_map]; omega))) hz)
      (lstAt_app (lstAt_app hm)) (by simp; omega)
    have er : List.range' i (n + 1) = i :: List.range' (i + 1) n := rfl
    obtain ⟨ws', x', y', j', e3⟩ := ih (i + 1) (ws ++ [z]) (some (.int i)) (some (.int q)) (j ++ j1 ++ j2) (by simp; omega)
    refine ⟨ws', x', y', j', ?_⟩
    rw [er, List.map_cons]
    refine (loop_nx rfl ((sSeq_nx e1).trans (sExp_ok e2))).trans ?_
    rw [List.map_append] at e3
    exact e3
theorem law_true (ns : List Int) (_ : ns.length ≤ 63) : ∃ σ, f_law [.scr ns] [] = .ok (.bl true) σ := by
  suffices h : Ends g_law [some (.scr ns), none, none, none, none, none, none, none, none, none, none, none, none, none, none, none, none] [] (.rt (.bl true)) by
    obtain ⟨σ, e⟩ := h
    exact ⟨σ, run_rt e⟩
  have hT : Stab TT := stab_T
  have m6 : ∀ {I : Sto → Prop} (_ : Stab I) {ρ : Ev} {c : Int}, ρ[1]? = some (some (.int c)) → Pu I (eBin oMod (eVar 1) (eBin oAdd (eBin oPow (eC (.int 10)) (eC (.int 6))) (eC (.int 1))) ρ) (.int (c % (1000000 + 1))) := fun hI _ _ h => Pu.bin hI (Pu.var h) (Pu.bin hI (p6 hI) Pu.c Pu.add) (Pu.mod (by decide))
  refine ex_seq (I := TT) trivial (Pu.set hT (cell_e hT (Pu.var rfl) Pu.c (by decide))) fun j1 => ?_
  refine ex_seq (I := TT) trivial (Pu.set hT (Pu.fn hT (Pu.acons hT (m6 hT rfl) (Pu.acons hT (cell_e hT (Pu.var rfl) Pu.c (by decide)) Pu.anil)) rfl (stand_pu hT _ _))) fun j2 => ?_
  generalize hc : cellV ns 0 % (1000000 + 1) = num
  generalize ha : stA (cellV ns 1) = a
  generalize hb : stB (cellV ns 1) = b
  have hts := tiesV_ok (cellV ns 1 / 3)
  generalize htv : tiesV (cellV ns 1 / 3) = ts at hts
  obtain ⟨t1, t2, t3⟩ := hts
  -- the words of the ties
  have hmine : PuL TT (eLC (srcT (eBin oIx (eVar 2) (eC (.int 2)))) [] (tgN 0) bTrue (eBin oIx (eVar 0) (eC (.int 2))) [some (.scr ns), some (.int (cellV ns 0)), some (stD num a b ts), none, none, none, none, none, none, none, none, none, none, none, none, none, none]) ((ts.map (·.w)).map D.int) := by
    have := PuL.lc (I := TT) (ρ := [some (.scr ns), some (.int (cellV ns 0)), some (stD num a b ts), none, none, none, none, none, none, none, none, none, none, none, none, none, none]) (ix := []) (tg := tgN 0) (fi := bTrue) (fe := eBin oIx (eVar 0) (eC (.int 2))) hT (fun d => match d with | .tup [_, _, w, _] => w | _ => .non) (fun _ => true)
      (Pu.srcT hT (f := eBin oIx (eVar 2) (eC (.int 2))) (ds := ts.map Ti.D) (Pu.ixT hT (Pu.var rfl) Pu.c rfl)) (fun _ _ _ => rfl) (fun ρ => ∃ z, ρ = [z]) ⟨none, rfl⟩ (fun d hd ρ ⟨z, hz⟩ => by
        obtain ⟨t, _, rfl⟩ := List.mem_map.mp hd
        subst hz
        exact ⟨_, rfl, ⟨_, rfl⟩, Pu.ret, fun _ => Pu.ixT hT (xs := [.int t.p, .int t.a, .int t.w, .int t.d]) (Pu.var rfl) Pu.c rfl⟩) (by rw [List.length_map]; omega)
    rw [List.filter_eq_self.mpr (by simp), List.map_map] at this
    rw [List.map_map]
    exact this
  refine ex_lst (I := TT) trivial hmine fun j3 nm hm => ?_
  refine ex_new (I := TT) (ds := []) trivial Pu.anil (by decide) fun j4 => ?_
  have hm4 := lstAt_app (j := j4) hm
  generalize [] ++ j1 ++ j2 ++ j3 ++ j4 = σ4 at hm4
  have e9 : (eBin oMod (eFn 2 f__law_cell_at [] (aCons (eVar 0) (aCons (eC (.int 2)) aNil))) (eC (.int 9))) [some (.scr ns), some (.int (cellV ns 0)), some (stD num a b ts), some (.ref nm), some (.ref σ4.length), none, none, none, none, none, none, none, none, none, none, none, none] (σ4 ++ [.lst []]) = .ok (.int (cellV ns 2 % 9)) (σ4 ++ [.lst []] ++ (Pu.bin (I := TT) hT (cell_e hT (a := eVar 0) (b := eC (.int 2)) (ρ := [some (.scr ns), some (.int (cellV ns 0)), some (stD num a b ts), some (.ref nm), some (.ref σ4.length), none, none, none, none, none, none, none, none, none, none, none, none]) (Pu.var rfl) (Pu.c (d := .int 2)) (by decide)) (Pu.c (d := .int 9)) (Pu.mod (by decide)) (σ4 ++ [.lst []]) trivial).choose) :=
    (Pu.bin (I := TT) hT (cell_e hT (a := eVar 0) (b := eC (.int 2)) (ρ := [some (.scr ns), some (.int (cellV ns 0)), some (stD num a b ts), some (.ref nm), some (.ref σ4.length), none, none, none, none, none, none, none, none, none, none, none, none]) (Pu.var rfl) (Pu.c (d := .int 2)) (by decide)) (Pu.c (d := .int 9)) (Pu.mod (by decide)) (σ4 ++ [.lst []]) trivial).choose_spec
  generalize (Pu.bin (I := TT) hT (cell_e hT (a := eVar 0) (b := eC (.int 2)) (ρ := [some (.scr ns), some (.int (cellV ns 0)), some (stD num a b ts), some (.ref nm), some (.ref σ4.length), none, none, none, none, none, none, none, none, none, none, none, none]) (Pu.var rfl) (Pu.c (d := .int 2)) (by decide)) (Pu.c (d := .int 9)) (Pu.mod (by decide)) (σ4 ++ [.lst []]) trivial).choose = j5 at e9
  obtain ⟨ws, x5, x6, j6, e6⟩ := law_words hm4 (by rw [List.length_map]; exact t3) ns (some (.int (cellV ns 0))) (some (stD num a b ts)) (cellV ns 2 % 9).toNat 0 [] none none j5 (by simp; omega)
  rw [← rangeD_eq] at e6
  refine ex_raw ((sForR_ok e9 (by omega) (by omega)).trans e6) ?_
  have hw6 : lstAt (σ4 ++ [.lst (ws.map D.int)] ++ j6) σ4.length = some (ws.map D.int) := at_mid
  generalize σ4 ++ [.lst (ws.map D.int)] ++ j6 = σ6 at hw6
  generalize σ4.length = nw at hw6
  refine ex_new (I := TT) (ds := [.int a, .int b]) trivial (Pu.acons hT (Pu.ixT hT (xs := [.int a, .int b]) (Pu.ixT hT (Pu.var rfl) Pu.c rfl) Pu.c rfl) (Pu.acons hT (Pu.ixT hT (xs := [.int a, .int b]) (Pu.ixT hT (Pu.var rfl) Pu.c rfl) Pu.c rfl) Pu.anil)) (cap_ok rfl) fun j7 => ?_
  have hw7 := lstAt_app (j := j7) hw6
  generalize σ6 ++ j7 = σ7 at hw7
  obtain ⟨c8, c9, c10, c11, c12, j8, e8⟩ := due_loop hw7 (some (.scr ns)) (some (.int (cellV ns 0))) (some (stD num a b ts)) (some (.ref nm)) x5 x6 ts (a, b) none none none none none [] t1
  rw [List.append_nil] at e8
  refine ex_raw ((sForT_ok (ds := ts.map Ti.D) (σ' := σ7 ++ [Ob.lst [D.int a, D.int b]]) rfl).trans e8) ?_
  generalize hA : (ts.foldl (payS ws) (a, b)).1 = A
  generalize hB : (ts.foldl (payS ws) (a, b)).2 = B
  have hd8 : lstAt (σ7 ++ [.lst [.int A, .int B]] ++ j8) σ7.length = some [.int A, .int B] := at_mid
  have hw8 : lstAt (σ7 ++ [.lst [.int A, .int B]] ++ j8) nw = some (ws.map D.int) := lstAt_app (lstAt_app hw7)
  generalize σ7 ++ [.lst [.int A, .int B]] ++ j8 = σ8 at hd8 hw8
  generalize σ7.length = nd at hd8
  have hJ : Stab fun σ => lstAt σ nd = some [.int A, .int B] ∧ lstAt σ nw = some (ws.map D.int) := stab_and (stab_lst _ _) (stab_lst _ _)
  refine ex_lst (I := fun σ => lstAt σ nd = some [.int A, .int B] ∧ lstAt σ nw = some (ws.map D.int)) ⟨hd8, hw8⟩ (PuL.list hJ (PuL.var rfl fun _ h => h.2)) fun j9 nh hh => ?_
  have hd9 := lstAt_app (j := j9) hd8
  have hw9 := lstAt_app (j := j9) hw8
  generalize σ8 ++ j9 = σ9 at hd9 hw9 hh
  have hK : Stab fun σ => lstAt σ nd = some [.int A, .int B] ∧ lstAt σ nw = some (ws.map D.int) ∧ lstAt σ nh = some (ws.map D.int) := stab_and (stab_lst _ _) (stab_and (stab_lst _ _) (stab_lst _ _))
  refine ex_seq (I := fun σ => lstAt σ nd = some [.int A, .int B] ∧ lstAt σ nw = some (ws.map D.int) ∧ lstAt σ nh = some (ws.map D.int)) ⟨hd9, hw9, hh⟩ (Pu.set hK (Pu.fn hK (Pu.acons hK (Pu.var rfl) (Pu.acons hK (Pu.var rfl) Pu.anil)) rfl (comes_pu hK num a b ts nh ws fun _ h => h.2.2))) fun j10 => ?_
  rw [hA, hB]
  have isT : ∀ {ρ : Ev} {i : Nat} {xs : List D}, ρ[i]? = some (some (.tup xs)) → Pu (fun σ => lstAt σ nd = some [.int A, .int B] ∧ lstAt σ nw = some (ws.map D.int) ∧ lstAt σ nh = some (ws.map D.int)) (eT (eUn (oIsB .tuple) (eVar i)) ρ) true := fun h => Pu.eT hK (Pu.un hK (Pu.var h) fun σ _ => ⟨[], by simp [oIsB, isBT]⟩)
  have isI : ∀ {ρ : Ev} {i : Nat} {z : Int}, ρ[i]? = some (some (.int z)) → Pu (fun σ => lstAt σ nd = some [.int A, .int B] ∧ lstAt σ nw = some (ws.map D.int) ∧ lstAt σ nh = some (ws.map D.int)) (bOr (bNot (eT (eUn (oIsB .int) (eVar i)))) (eT (eUn (oIsB .bool) (eVar i))) ρ) false := fun {ρ i z} h =>
    Pu.bnd hK (a := false) (Pu.not hK (b := true) (Pu.eT hK (Pu.un hK (Pu.var h) fun σ _ => ⟨[], by simp [oIsB, isBT]⟩))) (Pu.eT hK (Pu.un hK (Pu.var h) fun σ _ => ⟨[], by simp [oIsB, isBT]⟩))
  have st : ∀ j, (lstAt (σ9 ++ j) nd = some [.int A, .int B] ∧ lstAt (σ9 ++ j) nw = some (ws.map D.int) ∧ lstAt (σ9 ++ j) nh = some (ws.map D.int)) := fun j => ⟨lstAt_app hd9, lstAt_app hw9, lstAt_app hh⟩
  refine ex_seq (I := fun σ => lstAt σ nd = some [.int A, .int B] ∧ lstAt σ nw = some (ws.map D.int) ∧ lstAt σ nh = some (ws.map D.int)) (st _) (Pu.sifF hK (Pu.not hK (b := true) (isT rfl)) Pu.nil) fun j11 => ?_
  rw [List.append_assoc]
  refine ex_seq (I := fun σ => lstAt σ nd = some [.int A, .int B] ∧ lstAt σ nw = some (ws.map D.int) ∧ lstAt σ nh = some (ws.map D.int)) (st _) (Pu.forT hK (Pu.var rfl) (Pu.loop1 hK rfl (Pu.sifF hK (isI rfl) Pu.nil) (Pu.loop1 hK rfl (Pu.sifF hK (isI rfl) Pu.nil) Pu.ret))) fun j12 => ?_
  rw [List.append_assoc]
  refine ex_seq (I := fun σ => lstAt σ nd = some [.int A, .int B] ∧ lstAt σ nw = some (ws.map D.int) ∧ lstAt σ nh = some (ws.map D.int)) (st _) (Pu.set hK (Pu.fn hK (Pu.acons hK (m6 hK rfl) (Pu.acons hK (cell_e hK (Pu.var rfl) Pu.c (by decide)) Pu.anil)) rfl (stand_pu hK _ _))) fun j13 => ?_
  rw [List.append_assoc, hc, ha, hb, htv]
  refine ex_ret (I := fun σ => lstAt σ nd = some [.int A, .int B] ∧ lstAt σ nw = some (ws.map D.int) ∧ lstAt σ nh = some (ws.map D.int)) (st _) ?_
  have q1 : Pu (fun σ => lstAt σ nd = some [.int A, .int B] ∧ lstAt σ nw = some (ws.map D.int) ∧ lstAt σ nh = some (ws.map D.int)) (oEq (.tup [.int A, .int B]) (.tup [.int A, .int B])) (.bl true) := fun σ _ => ⟨[], by
    have e : eqS σ (.tup [.int A, .int B]) (.tup [.int A, .int B]) = some true := by
      show eqL (eq0 7) [.int A, .int B] [.int A, .int B] = some true
      exact eqL_refl fun x hx => by
        simp only [List.mem_cons, List.not_mem_nil, or_false] at hx
        rcases hx with rfl | rfl <;> exact eq0_int _ _
    unfold oEq; rw [e]; simp⟩
  have q2 : Pu (fun σ => lstAt σ nd = some [.int A, .int B] ∧ lstAt σ nw = some (ws.map D.int) ∧ lstAt σ nh = some (ws.map D.int)) (oEq (.ref nh) (.ref nw)) (.bl true) := fun σ h => ⟨[], by
    have e : eqS σ (.ref nh) (.ref nw) = some true := by
      unfold eqS; dsimp only; rw [h.2.2, h.2.1]
      exact eqL_refl fun x hx => by
        obtain ⟨z, _, rfl⟩ := List.mem_map.mp hx
        exact eq0_int _ _
    unfold oEq; rw [e]; simp⟩
  have q3 : Pu (fun σ => lstAt σ nd = some [.int A, .int B] ∧ lstAt σ nw = some (ws.map D.int) ∧ lstAt σ nh = some (ws.map D.int)) (oEq (stD num a b ts) (stD num a b ts)) (.bl true) := fun σ _ => ⟨[], by unfold oEq; rw [eqS_st]; simp⟩
  exact Pu.bnd hK (Pu.bin hK (Pu.var rfl) (Pu.tup hK (Pu.acons hK (PuL.ix hK (PuL.var rfl fun _ h => h.1) Pu.c rfl) (Pu.acons hK (PuL.ix hK (PuL.var rfl fun _ h => h.1) Pu.c rfl) Pu.anil)) (cap_ok rfl)) q1)
    (Pu.bnd hK (a := true) Pu.ret (Pu.bnd hK (Pu.bin hK (Pu.var rfl) (Pu.var rfl) q2) (Pu.bnd hK (a := true) Pu.ret (Pu.bin hK (Pu.var rfl) (Pu.var rfl) q3))))

end K05
open PySem PySem.W PyProof.Rows
set_option maxRecDepth 100000 in
set_option maxHeartbeats 0 in
theorem PySem.Challenge.cw_sidebook_k05_what_a_stand_comes_to_holds : PySem.Challenge.rw_sidebook_k05_what_a_stand_comes_to.Holds := by
  w_on; o_law; k_head; (case hw => w_witness2)
  k_fill
  refine L3.walkL (l := PySem.Challenge.rw_sidebook_k05_what_a_stand_comes_to) (ca := fun _ => 0) (k := 5) (x := "_law_script") (fn := K05.f_law) rfl rfl ⟨rfl, by decide, by decide⟩ (fun w h Y => PySem.W.kIn_of Y) ?F K05.law_true
  case F =>
    intro w mg h KX G
    have h__law_cell_at : L3.HasFn (L2.KOf KX) mg "_law_cell_at" (K05.top 6) ["_law_script", "_law_k"] := by
      dsimp only [L2.KOf]
      refine' L3.mkF KX G K05.bd__law_cell_at ?a ?l ?c ?k
      (case a => k_is); (case l => k_is); (case c => k_is); (case k => k_is)
    have h__law_share : L3.HasFn (L2.KOf KX) mg "_law_share" (K05.top 9) ["_law_number"] := by
      dsimp only [L2.KOf]
      refine' L3.mkF KX G K05.bd__law_share ?a ?l ?c ?k
      (case a => k_is); (case l => k_is); (case c => k_is); (case k => k_is)
    have h__law_mixed : L3.HasFn (L2.KOf KX) mg "_law_mixed" (K05.top 7) ["_law_cell", "_law_k"] := by
      dsimp only [L2.KOf]
      refine' L3.mkF KX G K05.bd__law_mixed ?a ?l ?c ?k
      (case a => k_is); (case l => k_is); (case c => k_is); (case k => k_is)
    have h__law_amount : L3.HasFn (L2.KOf KX) mg "_law_amount" (K05.top 8) ["_law_number"] := by
      dsimp only [L2.KOf]
      refine' L3.mkF KX G K05.bd__law_amount ?a ?l ?c ?k
      (case a => k_is); (case l => k_is); (case c => k_is); (case k => k_is)
    have h__law_tie : L3.HasFn (L2.KOf KX) mg "_law_tie" (K05.top 10) ["_law_cell", "_law_k", "_law_words"] := by
      dsimp only [L2.KOf]
      refine' L3.mkF KX G K05.bd__law_tie ?a ?l ?c ?k
      (case a => k_is); (case l => k_is); (case c => k_is); (case k => k_is)
    have h__law_ties : L3.HasFn (L2.KOf KX) mg "_law_ties" (K05.top 11) ["_law_cell"] := by
      dsimp only [L2.KOf]
      refine' L3.mkF KX G K05.bd__law_ties ?a ?l ?c ?k
      (case a => k_is); (case l => k_is); (case c => k_is); (case k => k_is)
    have h__law_stand : L3.HasFn (L2.KOf KX) mg "_law_stand" (K05.top 12) ["_law_number", "_law_cell"] := by
      dsimp only [L2.KOf]
      refine' L3.mkF KX G K05.bd__law_stand ?a ?l ?c ?k
      (case a => k_is); (case l => k_is); (case c => k_is); (case k => k_is)
    have h_other_side : L3.HasFn (L2.KOf KX) mg "other_side" (K05.top 1) ["side"] := by
      dsimp only [L2.KOf]
      refine' L3.mkF KX G K05.bd_other_side ?a ?l ?c ?k
      (case a => k_is); (case l => k_is); (case c => k_is); (case k => k_is)
    have h_with_more : L3.HasFn (L2.KOf KX) mg "with_more" (K05.top 3) ["shares", "side", "amount"] := by
      dsimp only [L2.KOf]
      refine' L3.mkF KX G K05.bd_with_more ?a ?l ?c ?k
      (case a => k_is); (case l => k_is); (case c => k_is); (case k => k_is)
    have h_comes_to : L3.HasFn (L2.KOf KX) mg "comes_to" (K05.top 4) ["one", "words"] := by
      dsimp only [L2.KOf]
      refine' L3.mkF KX G K05.bd_comes_to ?a ?l ?c ?k
      (case a => k_is); (case l => k_is); (case c => k_is); (case k => k_is)
    have h_law : L3.HasFn (L2.KOf KX) mg "law" (K05.top 13) ["_law_script"] := by
      dsimp only [L2.KOf]
      refine' L3.mkF KX G K05.bd_law ?a ?l ?c ?k
      (case a => k_is); (case l => k_is); (case c => k_is); (case k => k_is)
    have n_bool : mg "bool" = none := by
      refine' PySem.W.mg_none_of KX G ?a
      (case a => k_is)
    have n_int : mg "int" = none := by
      refine' PySem.W.mg_none_of KX G ?a
      (case a => k_is)
    have n_isinstance : mg "isinstance" = none := by
      refine' PySem.W.mg_none_of KX G ?a
      (case a => k_is)
    have n_len : mg "len" = none := by
      refine' PySem.W.mg_none_of KX G ?a
      (case a => k_is)
    have n_list : mg "list" = none := by
      refine' PySem.W.mg_none_of KX G ?a
      (case a => k_is)
    have n_range : mg "range" = none := by
      refine' PySem.W.mg_none_of KX G ?a
      (case a => k_is)
    have n_tuple : mg "tuple" = none := by
      refine' PySem.W.mg_none_of KX G ?a
      (case a => k_is)
    exact K05.ok_law ⟨h__law_cell_at, h__law_share, h__law_mixed, h__law_amount, h__law_tie, h__law_ties, h__law_stand, h_other_side, h_with_more, h_comes_to, h_law, n_bool, n_int, n_isinstance, n_len, n_list, n_range, n_tuple⟩
#print axioms PySem.Challenge.cw_sidebook_k05_what_a_stand_comes_to_holds

