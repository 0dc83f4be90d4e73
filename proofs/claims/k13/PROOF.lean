import PyProof.Rows.All
import Wide.All
import OpenK.AllK
import Wide.FinOn
import Lean
import PyProof.EqAt
import PyProof.EqKinds
import PyProof.TupleCall
import PyProof.NeKinds
import PyProof.NsDelKeeps
import KE.KTryMore
import PyProof.WalksMore
import PyProof.Rows.SetFrom
import KE.KEqDict
import PyProof.ToksMono
import PyProof.StrCalls6
import PyProof.StrBlock2
import PyProof.SliceStr2
import PyProof.StrLawsTight
import PyProof.InstStoreFacts
import PyProof.Rows.FStr
import PySem.Challenge.RW_sidebook_k13_what_makes_a_book
set_option Elab.async false
set_option linter.all false
set_option maxRecDepth 100000
def PySem.W.Fast.tw14494337377951741287 : Nat := 0
def PySem.W.Fast.tw835000507669628445 : Nat := 0
def PySem.W.Fast.tw14463322056597450164 : Nat := 0
def PySem.W.Fast.tw4489917099445325482 : Nat := 0
def PySem.W.Fast.tw16036112567993256163 : Nat := 0
def PySem.W.Fast.tw2354996492110568796 : Nat := 0
def PySem.W.Fast.tw18382325027471619640 : Nat := 0
def PySem.W.Fast.tw6491079486798338689 : Nat := 0
def PySem.W.Fast.tw11453813615562279071 : Nat := 0
def PySem.W.Fast.tw4728476367325624042 : Nat := 0
def PySem.W.Fast.tw14994780891687514655 : Nat := 0
def PySem.W.Fast.tw967864486155417018 : Nat := 0
def PySem.W.Fast.tw14315625247615068279 : Nat := 0
def PySem.W.Fast.tw14890915878936703154 : Nat := 0
def PySem.W.Fast.tw11450345282631964984 : Nat := 0
/-! THE HAND LAYER, for ints, bools, texts, own classes, LISTS and tuples (index, slices, in, append, pop ..), calls, loops. Paste it whole ahead of your own text; what your proof does not reach may be deleted. -/
namespace L2
open PySem PySem.Spec PyProof.Rows

/-- a key: an int or a str -/
abbrev Key := Sum Int Str
def keyIs : Key → Value → Bool
  | .inl k, v => Value.isInt k v
  | .inr x, v => Value.isStrOf x v
def keyH (w : World) : Key → Int
  | .inl k => hashInt k
  | .inr x => hashStr w x
theorem keyIs_shape : ∀ {k : Key} {v : Value}, keyIs k v = true → (∃ i t, k = Sum.inl i ∧ v = Value.int i t) ∨ (∃ x t, k = Sum.inr x ∧ v = Value.str x t)
  | .inl i, v, h => by
    obtain ⟨t, e⟩ := Value.isInt_shape (k := i) (v := v) h
    exact .inl ⟨i, t, rfl, e⟩
  | .inr x, v, h => by
    obtain ⟨t, e⟩ := Value.isStrOf_shape (x := x) (v := v) h
    exact .inr ⟨x, t, rfl, e⟩
theorem key_ll (a b : Int) : decide ((Sum.inl a : Key) = Sum.inl b) = (a == b) := by
  by_cases e : a = b
  · subst e; simp
  · have h : ¬ (Sum.inl a : Key) = Sum.inl b := fun q => e (Sum.inl.inj q)
    rw [decide_eq_false h]
    exact (beq_eq_false_iff_ne.mpr e).symm
theorem key_rr (a b : Str) : decide ((Sum.inr a : Key) = Sum.inr b) = decide (a = b) := by
  by_cases e : a = b
  · subst e; simp
  · have h : ¬ (Sum.inr a : Key) = Sum.inr b := fun q => e (Sum.inr.inj q)
    rw [decide_eq_false h, decide_eq_false e]
theorem key_lr (a : Int) (b : Str) : decide ((Sum.inl a : Key) = Sum.inr b) = false := decide_eq_false (fun q => nomatch q)
theorem key_rl (a : Str) (b : Int) : decide ((Sum.inr a : Key) = Sum.inl b) = false := decide_eq_false (fun q => nomatch q)

def mixKind (prog : Program) (w : World) : PySem.KeyKind prog w Key where
  is := keyIs
  hash := keyH w
  inj := fun v a b ha hb => by
    rcases keyIs_shape ha with ⟨i, t, rfl, rfl⟩ | ⟨x, t, rfl, rfl⟩
    · rcases keyIs_shape hb with ⟨j, u, rfl, e⟩ | ⟨y, u, rfl, e⟩
      · injection e with e1 _; rw [e1]
      · exact nomatch e
    · rcases keyIs_shape hb with ⟨j, u, rfl, e⟩ | ⟨y, u, rfl, e⟩
      · exact nomatch e
      · injection e with e1 _; rw [e1]
  byValue := fun k v h => by
    rcases keyIs_shape h with ⟨i, t, rfl, rfl⟩ | ⟨x, t, rfl, rfl⟩ <;> rfl
  pyHash := fun hv h => by
    rcases keyIs_shape hv with ⟨i, t, rfl, rfl⟩ | ⟨x, t, rfl, rfl⟩
    · exact wpAny_pyHash_int h
    · exact wpAny_pyHash_str h
  eqBool := fun hu hv h => by
    rcases keyIs_shape hu with ⟨i, t, rfl, rfl⟩ | ⟨x, t, rfl, rfl⟩
    · rcases keyIs_shape hv with ⟨j, u, rfl, rfl⟩ | ⟨y, u, rfl, rfl⟩
      · rw [key_ll] at h; exact wpAny_eqBool_int h
      · rw [key_lr] at h; exact SeqAt.EqAt.int_str i t y u _ _ _ _ h
    · rcases keyIs_shape hv with ⟨j, u, rfl, rfl⟩ | ⟨y, u, rfl, rfl⟩
      · rw [key_rl] at h; exact SeqAt.EqAt.str_int x t j u _ _ _ _ h
      · rw [key_rr] at h; exact wpAny_eqBool_str h
  «strs» := fun k x t v h => by
    rcases keyIs_shape h with ⟨i, u, rfl, e⟩ | ⟨y, u, rfl, e⟩
    · exact nomatch e
    · injection e with e1 _
      subst e1
      cases v <;> rfl

theorem mixKind_is (prog : Program) (w : World) (k : Key) (v : Value) : (mixKind prog w).is k v = keyIs k v := rfl
end L2

namespace L2
open PySem PySem.Spec PyProof.Rows

/-- a value, without the heap -/
inductive V where
  | non | bl (b : Bool) | int (i : Int) | str (x : Str) | byt (b : Array UInt8) | flt (b : UInt64) | ref (a : Addr) | ty (n : String)
  deriving DecidableEq

def RelV : V → Value → Prop
  | .non, u => u = Value.none
  | .bl b, u => u = Value.bool b
  | .int i, u => ∃ t, u = Value.int i t
  | .str x, u => ∃ t, u = Value.str x t
  | .byt b, u => ∃ t, u = Value.bytes b t
  | .flt b, u => ∃ t, u = Value.float b t
  | .ref a, u => u = Value.ref a
  | .ty n, u => u = Value.type n

abbrev Vals : List V → List Value → Prop := Paired RelV
theorem Vals.length {xs : List V} {us : List Value} (r : Vals xs us) : xs.length = us.length := Paired.length r
theorem Vals.get : ∀ {xs : List V} {us : List Value} {i : Nat} {x : V}, Vals xs us → xs[i]? = some x → ∃ u, us[i]? = some u ∧ RelV x u
  | _, _, _, _, .nil, e => by simp at e
  | _, _, 0, _, .cons r _, e => by simp at e; subst e; exact ⟨_, rfl, r⟩
  | _, _, i + 1, x, .cons _ t, e => by
    obtain ⟨u, h1, h2⟩ := Vals.get (i := i) (x := x) t (by simpa using e)
    exact ⟨u, by simpa using h1, h2⟩
theorem Vals.set {x : V} {u : Value} (r : RelV x u) : ∀ {xs : List V} {us : List Value} (i : Nat), Vals xs us → Vals (xs.set i x) (us.set i u)
  | _, _, _, .nil => .nil
  | _, _, 0, .cons _ t => .cons r t
  | _, _, i + 1, .cons q t => .cons q (Vals.set r i t)
theorem Vals.append : ∀ {xs ys : List V} {us ws : List Value}, Vals xs us → Vals ys ws → Vals (xs ++ ys) (us ++ ws)
  | _, _, _, _, .nil, s => s
  | _, _, _, _, .cons r t, s => .cons r (Vals.append t s)
theorem Vals.take : ∀ {xs : List V} {us : List Value} (n : Nat), Vals xs us → Vals (xs.take n) (us.take n)
  | _, _, 0, _ => .nil
  | _, _, _ + 1, .nil => .nil
  | _, _, n + 1, .cons r t => .cons r (Vals.take n t)
theorem Vals.drop : ∀ {xs : List V} {us : List Value} (n : Nat), Vals xs us → Vals (xs.drop n) (us.drop n)
  | _, _, 0, r => r
  | _, _, _ + 1, .nil => .nil
  | _, _, n + 1, .cons _ t => Vals.drop n t
theorem Vals.none_of : ∀ {xs : List V} {us : List Value} {i : Nat}, Vals xs us → xs[i]? = none → us[i]? = none := fun {xs us i} r e => by
  have h1 := r.length
  have h2 : xs.length ≤ i := List.getElem?_eq_none_iff.mp e
  exact List.getElem?_eq_none_iff.mpr (by omega)

def RelO : Option V → Option Value → Prop
  | some v, some u => RelV v u
  | none, none => True
  | _, _ => False
def KV {κ : Type} : List (κ × V) → List (κ × Value) → Prop := Paired fun (p : κ × V) (q : κ × Value) => p.1 = q.1 ∧ RelV p.2 q.2

/-- a key of a dict (00_mix): an int or a text -/
def kV : Key → V
  | .inl i => .int i
  | .inr x => .str x

/-- what stands at a tracked address -/
inductive HO where
  /-- a list -/
  | lst (xs : List V)
  /-- a tuple (never changes) -/
  | tup (xs : List V)
  /-- a dict whose keys are ints and texts; one whose keys are tuples of ints and texts (the empty one is both) -/
  | dK (kvs : List (Key × V)) | dT (kvs : List (List Key × V))
  /-- a set of ints: its members, its size -/
  | set (S : Int → Bool) (n : Nat)
  /-- an instance of the class at C, its dict at dx, its attributes -/
  | ins (C dx : Addr) (fs : List (Str × V))
  /-- the dict of the instance at x -/
  | own (x : Addr)
  /-- the dict of an exception -/
  | xd (fs : List (Str × V))
  /-- a bound method, f of x -/
  | met (f x : Addr)
  /-- a range object lo, lo + 1, .. below hi -/
  | rng (lo hi : Int)
  /-- a thing that is known to the object (the script; a dict while a loop walks it): read, never written while it is so -/
  | frz (o : Obj) (u : HO)
  /-- a code object's table -/
  | tbl (ps : Array Value)
  /-- any other thing, by what is true of its one object (a def of one's own: SetO a S n := HO.ext fun h => ..) -/
  | ext (φ : Heap → Prop)

abbrev Hp := Addr → Option HO
def upd (H : Hp) (a : Addr) (o : HO) : Hp := fun b => if b = a then some o else H b
theorem upd_same {H : Hp} {a : Addr} {o : HO} : upd H a o a = some o := by unfold upd; rw [if_pos rfl]
theorem upd_ne {H : Hp} {a b : Addr} {o : HO} (h : b ≠ a) : upd H a o b = H b := by unfold upd; rw [if_neg h]
/-- two objects of different content stand apart -/
theorem ne_of {H : Hp} {a b : Addr} {o u : HO} (h : H a = some o) (h' : H b = some u) (d : o ≠ u) : a ≠ b := by
  intro e; subst e; rw [h] at h'; exact d (Option.some.inj h')
theorem ne_of_none {H : Hp} {a b : Addr} {o : HO} (h : H a = some o) (h' : H b = none) : a ≠ b := by
  intro e; subst e; rw [h] at h'; cases h'

section
variable (P : Program) (w : World)
def ObjOk (H : Hp) (h : Heap) (a : Addr) : HO → Prop
  | .lst xs => xs.length ≤ sizeLine ∧ ∃ (its : List Value) (n : Nat), Vals xs its ∧ h.get? a = some { cls := .type "list", data := .seq its.toArray n }
  | .tup xs => xs.length ≤ sizeLine ∧ ∃ its : List Value, Vals xs its ∧ IsTup h a its.toArray
  | .dK kvs => kvs.length ≤ sizeLine ∧ (a == sysModules) = false ∧ ∃ vs, KV kvs vs ∧ h.DictOf (mixKind P w) a vs
  | .dT kvs => kvs.length ≤ sizeLine ∧ (a == sysModules) = false ∧ ∃ xs : List (List Key × Addr × Value),
      Paired (fun (p : List Key × V) (q : List Key × Addr × Value) => p.1 = q.1 ∧ H q.2.1 = some (.tup (p.1.map kV)) ∧ RelV p.2 q.2.2) kvs xs ∧
      ∃ o es ep, h.get? a = some o ∧ o.ExactDict ∧ o.data = .dict es ep ∧ es.toList = xs.map (entryOfKey (tupleKind (mixKind P w))) ∧ (xs.map (·.1)).Nodup
  | .set S n => h.SetOf (intKind P w) a S n
  | .ins C dx fs => H dx = some (.own a) ∧ fs.length ≤ 1000 ∧ dx ≠ a ∧ h.get? a = some (PySem.W.instObj C dx) ∧
      ∃ mA, h.Ns1 dx mA ∧ (∀ f, RelO (fs.lookup f) (mA f)) ∧ PySem.Within mA (fs.map (·.1))
  | .own _ => ∃ o, h.get? a = some o
  | .xd fs => ∃ mA, h.Ns1 a mA ∧ ∀ f, RelO (fs.lookup f) (mA f)
  | .rng lo hi => ∃ t u v, h.get? a = some { cls := .type "range", data := .fields #[.int lo t, .int hi u, .int 1 v] }
  | .frz o u => h.get? a = some o ∧ ObjOk H h a u
  | .tbl ps => h.get? a = some { cls := .none, data := .fields ps }
  | .met f x => h.get? a = some (PySem.W.methodObj (.ref f) (.ref x))
  | .ext φ => φ h ∧ (∃ o, h.get? a = some o) ∧ ∀ h1 h2 : Heap, φ h1 → (∀ o, h1.get? a = some o → h2.get? a = some o) → φ h2
/-- the abstract heap is held -/
def HOk (H : Hp) (h : Heap) : Prop := ∀ a o, H a = some o → ObjOk P w H h a o
end

section
variable {P : Program} {w : World} {H H' : Hp} {h h' : Heap} {a : Addr} {o : HO}
theorem ObjOk.lt (x : ObjOk P w H h a o) : a < h.objs.size := by
  cases o with
  | lst xs => obtain ⟨_, _, _, _, e⟩ := x; exact Heap.lt_size e
  | tup xs => obtain ⟨_, _, _, p⟩ := x; exact p.lt
  | dK kvs => obtain ⟨_, _, _, _, o, _, _, e, _⟩ := x; exact Heap.lt_size e
  | dT kvs => obtain ⟨_, _, _, _, o, _, _, e, _⟩ := x; exact Heap.lt_size e
  | set S n => obtain ⟨o, _, _, _, e, _⟩ := x; exact Heap.lt_size e
  | ins C dx fs => obtain ⟨_, _, _, e, _⟩ := x; exact Heap.lt_size e
  | own y => obtain ⟨_, e⟩ := x; exact Heap.lt_size e
  | xd fs => obtain ⟨_, ⟨_, _, _, e, _⟩, _⟩ := x; exact Heap.lt_size e
  | rng lo hi => obtain ⟨_, _, _, e⟩ := x; exact Heap.lt_size e
  | frz ob u => obtain ⟨e, _⟩ := x; exact Heap.lt_size e
  | tbl ps => exact Heap.lt_size (show h.get? a = some _ from x)
  | met f y => exact Heap.lt_size (show h.get? a = some _ from x)
  | ext φ => obtain ⟨_, ⟨_, e⟩, _⟩ := x; exact Heap.lt_size e
theorem Paired.mapP {α β : Type} {F G : α → β → Prop} : ∀ {l₁ : List α} {l₂ : List β}, Paired F l₁ l₂ → (∀ a b, F a b → G a b) → Paired G l₁ l₂
  | _, _, .nil, _ => .nil
  | _, _, .cons r t, f => .cons (f _ _ r) (Paired.mapP t f)
/-- what an object's description leans on: its own object, its own dict, the tuples -/
theorem ObjOk.stay (x : ObjOk P w H h a o) (k : ∀ b u, (b = a ∨ H b = some (.own a)) → h.get? b = some u → h'.get? b = some u)
    (ho : ∀ b, H b = some (.own a) → H' b = some (.own a)) (ht : ∀ b xs, H b = some (.tup xs) → H' b = some (.tup xs)) : ObjOk P w H' h' a o := by
  induction o with
  | lst xs => obtain ⟨z, its, n, r, e⟩ := x; exact ⟨z, its, n, r, k _ _ (.inl rfl) e⟩
  | tup xs => obtain ⟨z, its, r, ob, e, c⟩ := x; exact ⟨z, its, r, ob, k _ _ (.inl rfl) e, c⟩
  | dK kvs => obtain ⟨z, y, vs, r, ob, es, ep, e, c⟩ := x; exact ⟨z, y, vs, r, ob, es, ep, k _ _ (.inl rfl) e, c⟩
  | dT kvs =>
    obtain ⟨z, y, xs, r, ob, es, ep, e, c⟩ := x
    exact ⟨z, y, xs, Paired.mapP r fun p q z => ⟨z.1, ht _ _ z.2.1, z.2.2⟩, ob, es, ep, k _ _ (.inl rfl) e, c⟩
  | set S n => obtain ⟨ob, es, ep, t, e, c⟩ := x; exact ⟨ob, es, ep, t, k _ _ (.inl rfl) e, c⟩
  | ins C dx fs =>
    obtain ⟨d, z, ne, e, mA, ⟨od, es, ep, e2, c⟩, r⟩ := x
    exact ⟨ho _ d, z, ne, k _ _ (.inl rfl) e, mA, ⟨od, es, ep, k _ _ (.inr d) e2, c⟩, r⟩
  | own y => obtain ⟨ob, e⟩ := x; exact ⟨ob, k _ _ (.inl rfl) e⟩
  | xd fs => obtain ⟨mA, ⟨od, es, ep, e, c⟩, r⟩ := x; exact ⟨mA, ⟨od, es, ep, k _ _ (.inl rfl) e, c⟩, r⟩
  | rng lo hi => obtain ⟨t, u, v, e⟩ := x; exact ⟨t, u, v, k _ _ (.inl rfl) e⟩
  | frz ob u ih => obtain ⟨e, q⟩ := x; exact ⟨k _ _ (.inl rfl) e, ih q⟩
  | tbl ps =>
    have e : h.get? a = some { cls := .none, data := .fields ps } := x
    show h'.get? a = some { cls := .none, data := .fields ps }
    exact k a _ (.inl rfl) e
  | met f y =>
    have e : h.get? a = some (PySem.W.methodObj (.ref f) (.ref y)) := x
    show h'.get? a = some (PySem.W.methodObj (.ref f) (.ref y))
    exact k a _ (.inl rfl) e
  | ext φ => obtain ⟨p, ⟨o, e⟩, st⟩ := x; exact ⟨st _ _ p fun o q => k _ _ (.inl rfl) q, ⟨o, k _ _ (.inl rfl) e⟩, st⟩
theorem HOk.lt (x : HOk P w H h) (e : H a = some o) : a < h.objs.size := (x a o e).lt
theorem HOk.fresh (x : HOk P w H h) (e : h.objs.size ≤ a) : H a = none := by
  cases q : H a with
  | none => rfl
  | some u => exact absurd (Nat.lt_of_lt_of_le (x.lt q) e) (Nat.lt_irrefl _)
/-- every object of the heap is kept -/
theorem HOk.kept (x : HOk P w H h) (k : ∀ b u, h.get? b = some u → h'.get? b = some u) : HOk P w H h' := fun a o e =>
  (x a o e).stay (fun b u _ q => k b u q) (fun _ q => q) fun _ _ q => q
/-- a new object is laid and tracked -/
theorem HOk.laid (x : HOk P w H h) (k : ∀ b u, h.get? b = some u → h'.get? b = some u) (hp : h.objs.size ≤ a) (new : ObjOk P w (upd H a o) h' a o) : HOk P w (upd H a o) h' := fun b u e => by
  have hn := x.fresh hp
  by_cases hb : b = a
  · subst hb; rw [upd_same] at e; cases e; exact new
  · rw [upd_ne hb] at e
    exact (x b u e).stay (fun c v _ q => k c v q) (fun c q => by rw [upd_ne (ne_of_none q hn)]; exact q) fun c xs q => by rw [upd_ne (ne_of_none q hn)]; exact q
end

/-- what may be read as u: it is u, or a known u -/
def Rd (H : Hp) (a : Addr) (u : HO) : Prop := H a = some u ∨ ∃ o, H a = some (.frz o u)
theorem Rd.of {H : Hp} {a : Addr} {u : HO} (h : H a = some u) : Rd H a u := .inl h
theorem Rd.ok {P : Program} {w : World} {H : Hp} {h : Heap} {a : Addr} {u : HO} (r : Rd H a u) (x : HOk P w H h) : ObjOk P w H h a u := by
  rcases r with r | ⟨o, r⟩
  · exact x a u r
  · obtain ⟨_, q⟩ := x a _ r
    exact q
/-- what may be written -/
def Mut : Option HO → Prop
  | some (.lst _) => True
  | some (.dK _) => True
  | some (.dT _) => True
  | some (.set _ _) => True
  | some (.ins _ _ _) => True
  | some (.ext _) => True
  | _ => False
section
variable {P : Program} {w : World} {H : Hp} {h h' : Heap} {x e : Addr} {o' : HO}
/-- the object at e is changed: x itself, or the dict of the instance x -/
theorem HOk.write (ok : HOk P w H h) (mu : Mut (H x)) (he : e = x ∨ H e = some (.own x)) (k : ∀ b u, b ≠ e → h.get? b = some u → h'.get? b = some u) (heo : ∃ u, h'.get? e = some u)
    (new : ObjOk P w (upd H x o') h' x o') : HOk P w (upd H x o') h' := fun b u q => by
  have nown : ∀ c y, H c = some (.own y) → c ≠ x := fun c y r z => by subst z; rw [r] at mu; exact mu
  have ntup : ∀ c xs, H c = some (.tup xs) → c ≠ x := fun c xs r z => by subst z; rw [r] at mu; exact mu
  by_cases hb : b = x
  · subst hb; rw [upd_same] at q; cases q; exact new
  · rw [upd_ne hb] at q
    by_cases hbe : b = e
    · have q' : H b = some (.own x) := by
        rcases he with z | z
        · exact absurd (hbe.trans z) hb
        · rw [hbe]; exact z
      rw [q] at q'; cases q'
      obtain ⟨v, hv⟩ := heo
      exact ⟨v, by rw [hbe]; exact hv⟩
    · refine (ok b u q).stay (fun c v hc r => k c v ?_ r) (fun c r => by rw [upd_ne (nown c b r)]; exact r) fun c xs r => by rw [upd_ne (ntup c xs r)]; exact r
      rcases hc with rfl | hc
      · exact hbe
      · rintro rfl
        rcases he with z | z
        · exact nown c b hc z
        · rw [hc] at z; cases z; exact hb rfl
end

/-! ### kept unless tracked; of the frames at fs (the callers') the slots may change (an exception that passes writes there); of the records at ex (iterators) nothing is said -/
structure Un (fs ex : List Addr) (H H' : Hp) (h h' : Heap) : Prop where
  keep : ∀ b o, h.get? b = some o → H b = none → b ∉ fs → b ∉ ex → h'.get? b = some o
  slot : ∀ b o, h.get? b = some o → H b = none → b ∈ fs → b ∉ ex → ∃ sl, h'.get? b = some { o with slots := sl }
  free : ∀ b o, h.get? b = some o → H b = none → b ∉ ex → H' b = none
  there : ∀ b o, h.get? b = some o → b ∉ ex → ∃ o', h'.get? b = some o'
  tups : ∀ b xs, H b = some (.tup xs) → H' b = some (.tup xs)
  frzs : ∀ b o u, H b = some (.frz o u) → H' b = some (.frz o u)
  tbls : ∀ b ps, H b = some (.tbl ps) → ∃ more, H' b = some (.tbl (ps ++ more))
section
variable {fs fs' ex ex' : List Addr} {H H1 H2 : Hp} {h h1 h2 h' : Heap} {a x e : Addr} {o : HO}
theorem Un.any (u : Un fs ex H H1 h h1) {b : Addr} {ob : Obj} (q : h.get? b = some ob) (n : H b = none) (hx : b ∉ ex) : ∃ sl, h1.get? b = some { ob with slots := sl } := by
  by_cases hb : b ∈ fs
  · exact u.slot b ob q n hb hx
  · exact ⟨ob.slots, u.keep b ob q n hb hx⟩
theorem Un.trans (a : Un fs ex H H1 h h1) (b : Un fs ex H1 H2 h1 h2) : Un fs ex H H2 h h2 where
  keep := fun c ob q n hc hx => b.keep c ob (a.keep c ob q n hc hx) (a.free c ob q n hx) hc hx
  slot := fun c ob q n hc hx => by
    obtain ⟨sl, e1⟩ := a.slot c ob q n hc hx
    obtain ⟨sl', e2⟩ := b.slot c _ e1 (a.free c ob q n hx) hc hx
    exact ⟨sl', e2⟩
  free := fun c ob q n hx => by
    obtain ⟨o', e1⟩ := a.there c ob q hx
    exact b.free c o' e1 (a.free c ob q n hx) hx
  there := fun c ob q hx => by
    obtain ⟨o', e1⟩ := a.there c ob q hx
    exact b.there c o' e1 hx
  tups := fun c xs q => b.tups c xs (a.tups c xs q)
  frzs := fun c ob xs q => b.frzs c ob xs (a.frzs c ob xs q)
  tbls := fun c ps q => by
    obtain ⟨m1, e1⟩ := a.tbls c ps q
    obtain ⟨m2, e2⟩ := b.tbls c _ e1
    exact ⟨m1 ++ m2, by rw [e2, Array.append_assoc]⟩
theorem Un.kept (k : ∀ b u, h.get? b = some u → h'.get? b = some u) : Un fs ex H H h h' :=
  ⟨fun b ob q _ _ _ => k b ob q, fun b ob q _ _ _ => ⟨ob.slots, k b ob q⟩, fun _ _ _ n _ => n, fun b ob q _ => ⟨ob, k b ob q⟩, fun _ _ q => q, fun _ _ _ q => q, fun _ ps q => ⟨#[], by rw [q]; simp⟩⟩
theorem Un.refl : Un fs ex H H h h := Un.kept fun _ _ q => q
theorem Un.laid (k : ∀ b u, h.get? b = some u → h'.get? b = some u) (hp : h.objs.size ≤ a) (hn : H a = none) : Un fs ex H (upd H a o) h h' where
  keep := fun b u q _ _ _ => k b u q
  slot := fun b u q _ _ _ => ⟨u.slots, k b u q⟩
  free := fun b u q n _ => by rw [upd_ne (Nat.ne_of_lt (Nat.lt_of_lt_of_le (Heap.lt_size q) hp))]; exact n
  there := fun b u q _ => ⟨u, k b u q⟩
  tups := fun b xs q => by rw [upd_ne (ne_of_none q hn)]; exact q
  frzs := fun b u xs q => by rw [upd_ne (ne_of_none q hn)]; exact q
  tbls := fun b ps q => ⟨#[], by rw [upd_ne (ne_of_none q hn), q]; simp⟩
theorem Un.write (mu : Mut (H x)) (he : e = x ∨ H e = some (.own x)) (k : ∀ b u, b ≠ e → h.get? b = some u → h'.get? b = some u) (heo : ∃ u, h'.get? e = some u) : Un fs ex H (upd H x o) h h' := by
  have hx : ∀ b, H b = none → b ≠ x := fun b n z => by subst z; rw [n] at mu; exact mu
  have hb : ∀ b, H b = none → b ≠ e := fun b n z => by
    subst z
    rcases he with r | r
    · exact hx b n r
    · rw [n] at r; cases r
  have hm : ∀ b u, H b = some u → ¬ Mut (some u) → b ≠ x := fun b u q nm z => by subst z; rw [q] at mu; exact nm mu
  refine ⟨fun b u q n _ _ => k b u (hb b n) q, fun b u q n _ _ => ⟨u.slots, k b u (hb b n) q⟩, fun b u q n _ => by rw [upd_ne (hx b n)]; exact n, fun b u q _ => ?_,
    fun b xs q => by rw [upd_ne (hm b _ q fun z => z)]; exact q, fun b u xs q => by rw [upd_ne (hm b _ q fun z => z)]; exact q, fun b ps q => ⟨#[], by rw [upd_ne (hm b _ q fun z => z), q]; simp⟩⟩
  by_cases hbe : b = e
  · subst hbe; exact heo
  · exact ⟨u, k b u hbe q⟩
theorem Un.mono (u : Un fs ex H H1 h h1) (hs : ∀ b ∈ fs, b ∈ fs') (hx : ∀ b ∈ ex, b ∈ ex') : Un fs' ex' H H1 h h1 :=
  ⟨fun b ob q n hb he => u.keep b ob q n (fun z => hb (hs b z)) fun z => he (hx b z), fun _ _ q n _ he => u.any q n fun z => he (hx _ z), fun b ob q n he => u.free b ob q n fun z => he (hx b z), fun b ob q he => u.there b ob q fun z => he (hx b z), u.tups, u.frzs, u.tbls⟩
end

/-! ### the heap without what is tracked -/
def trk (h : Heap) (H : Hp) : List Addr := (List.range h.objs.size).filter fun a => (H a).isSome
def hidT (h : Heap) (H : Hp) : Heap := PySem.W.hideAll h (trk h H)
theorem hidT_size (h : Heap) (H : Hp) : (hidT h H).objs.size = h.objs.size := PySem.W.hideAll_size _ _
theorem hidT_get {h : Heap} {H : Hp} {b : Addr} {o : Obj} (e : h.get? b = some o) (n : H b = none) : (hidT h H).get? b = some o :=
  PySem.W.hideAll_get _ e fun hm => by
    have q : (H b).isSome = true := (List.mem_filter.mp hm).2
    rw [n] at q; simp at q
theorem of_hidT {h : Heap} {H : Hp} {b : Addr} {o : Obj} (e : (hidT h H).get? b = some o) : h.get? b = some o ∧ H b = none := by
  have e' : h.get? b = some o := PySem.W.of_hideAll (trk h H) e
  refine ⟨e', ?_⟩
  cases q : H b with
  | none => rfl
  | some x =>
    have hm : b ∈ trk h H := List.mem_filter.mpr ⟨List.mem_range.mpr (Heap.lt_size e'), by simp [q]⟩
    have z : (hidT h H).get? b = none := PySem.W.hideAll_none (trk h H) hm
    rw [z] at e; cases e

/-! ### OpenK's ledger, filled with every new object but one -/
def allNews (g h : Heap) (L : Addr) : List (Addr × Obj) := (List.range h.objs.size).filterMap fun a => if a = L ∨ (g.get? a).isSome = true then none else (h.get? a).map fun o => (a, o)
def rest (g h : Heap) (L d : Addr) : List (Addr × Obj) := (allNews g h L).filter fun p => decide (p.1 ≠ d)
end L2

namespace L2
open PySem PySem.Spec PyProof.Rows

/-- the module's facts, over the base: the heap at the law's entry without what is tracked there -/
structure Mod (K : PySem.W.Frag) (mg : Str → Option Value) (base : Heap) : Prop where
  kin : K.In base
  glob : base.Ns mainGlobals mg
  blt : ∃ mb, base.Ns builtinsNs mb ∧ ∀ x : Str, x ≠ "__name__" → mb x = bootBuiltins x
  nolimit : base.NoLimit

/-- the context: a def's body (or a comprehension's block) running. base: fixed through the whole law; s₀, H₀: the entry; outer: the frames whose slots others may change (a def's callers); stack: all frames that run;
   ex: iterators that were made ahead of the entry and are walked here (a comprehension's); fn: the names whose cells were made at the entry (a def: all; a comprehension's block: its own); calm: not within an except suite; pn: pins that every state bears; xe: what is wanted of an exception that leaves the code -/
structure Cx where
  prog : Program
  w : World
  K : PySem.W.Frag
  mg : Str → Option Value
  base : Heap
  A : Around
  N : List Str
  s₀ : Shared
  H₀ : Hp
  env : Env
  outer : List Env
  stack : List Env
  ex : List Addr
  fn : Str → Bool
  calm : Bool
  pn : List (Addr × Obj)
  xe : Value → Shared → Prop
/-- the callers' frames -/
def frs (l : List Env) : List Addr := l.filterMap (·.frame)
abbrev Cx.fs (X : Cx) : List Addr := frs X.outer

def Vis (sc : Scope) (x : Str) : Prop := sc.names.lookup x = some .local ∨ sc.names.lookup x = some .cell ∨ sc.names.lookup x = some .free
def Loc (sc : Scope) (x : Str) : Prop := sc.names.lookup x = some .local ∨ sc.names.lookup x = some .cell
def Look (env : Env) (h : Heap) (m : Str → Option Value) (x : Str) (u : Value) : Prop :=
  (env.kindOf x = some .local ∧ m x = some u) ∨ ((env.kindOf x = some .cell ∨ env.kindOf x = some .free) ∧ ∃ c, env.cells.lookup x = some c ∧ h.IsCell c (some u))

structure Cx.Ok (X : Cx) : Prop where
  mod : Mod X.K X.mg X.base
  kind : X.env.scope.kind = .function
  glob : X.env.globals = mainGlobals
  blt : X.env.builtins = builtinsNs
  above : X.s₀.heap.objs.size ≤ X.env.locals
  inj : ∀ x y c, X.env.cells.lookup x = some c → X.env.cells.lookup y = some c → x = y
  has : ∀ x, (X.env.kindOf x = some .cell ∨ X.env.kindOf x = some .free) → ∃ c, X.env.cells.lookup x = some c
  cab : ∀ x c, X.fn x = true → X.env.cells.lookup x = some c → X.s₀.heap.objs.size ≤ c
  hd : X.calm = true → X.A.handled = none
  frames : X.A.frames = some X.stack
  stk : X.stack = X.outer ∨ (X.stack = X.env :: X.outer ∧ X.env.frame = some X.env.locals)
  exf : ∀ b ∈ X.ex, b ≠ X.env.locals ∧ ∀ x c, X.env.cells.lookup x = some c → c ≠ b
  bs : ∀ b o, X.base.get? b = some o → X.s₀.heap.get? b = some o ∧ X.H₀ b = none
  bsz : X.base.objs.size ≤ X.s₀.heap.objs.size
  noex : ∀ b o, X.base.get? b = some o → b ∉ X.ex
  exfs : ∀ b ∈ X.ex, b ∉ X.fs
  funs : X.s₀.heap.FunFrames X.base X.outer
  frf : ∀ b ∈ X.fs, X.H₀ b = none

structure Inv (X : Cx) (pins : List (Addr × Obj)) (σ : List (Option V)) (H : Hp) (s : Shared) : Prop where
  ok : X.Ok
  os : s.os = X.s₀.os
  bare : AllBare s.gens
  base : Un X.fs X.ex X.H₀ H X.s₀.heap s.heap
  loc : ∃ m, s.heap.Ns X.env.locals m ∧ ∀ (i : Nat) (x : Str) (v : V), X.N[i]? = some x → σ[i]? = some (some v) → Vis X.env.scope x → ∃ u, RelV v u ∧ Look X.env s.heap m x u
  cell : ∀ x c, X.env.cells.lookup x = some c → ∃ v, s.heap.IsCell c v
  free : H X.env.locals = none
  freeC : ∀ x c, X.env.cells.lookup x = some c → H c = none
  pin : ∀ p ∈ X.pn ++ pins, s.heap.get? p.1 = some p.2 ∧ H p.1 = none ∧ p.1 ≠ X.env.locals ∧ p.1 ∉ X.fs ∧ ∀ v, p.2.data ≠ .cell v
  hok : HOk X.prog X.w H s.heap
  len : σ.length = X.N.length

section
variable {X : Cx} {pins : List (Addr × Obj)} {σ : List (Option V)} {H H' : Hp} {s : Shared} {h' : Heap}

theorem Cx.Ok.nofr (ok : X.Ok) {b : Addr} {o : Obj} (e : X.base.get? b = some o) : b ∉ X.fs := fun hb => by
  have := (ok.funs.mem hb).1
  rw [e] at this; cases this
theorem Inv.bs (I : Inv X pins σ H s) : ∀ b o, X.base.get? b = some o → s.heap.get? b = some o ∧ H b = none := fun b o e =>
  ⟨I.base.keep b o (I.ok.bs b o e).1 (I.ok.bs b o e).2 (I.ok.nofr e) (I.ok.noex b o e), I.base.free b o (I.ok.bs b o e).1 (I.ok.bs b o e).2 (I.ok.noex b o e)⟩
theorem Inv.bk (I : Inv X pins σ H s) : ∀ b o, X.base.get? b = some o → s.heap.get? b = some o := fun b o e => (I.bs b o e).1
theorem Inv.mod (I : Inv X pins σ H s) : Mod X.K X.mg X.base := I.ok.mod
theorem Inv.kIn (I : Inv X pins σ H s) : X.K.In s.heap := I.ok.mod.kin.keeps I.bk
theorem Inv.nolimit (I : Inv X pins σ H s) : s.heap.NoLimit := I.ok.mod.nolimit.keeps I.bk
theorem Inv.lt (I : Inv X pins σ H s) : X.env.locals < s.heap.objs.size := let ⟨_, hn, _⟩ := I.loc; hn.lt
theorem Inv.sz (I : Inv X pins σ H s) : X.s₀.heap.objs.size ≤ s.heap.objs.size := Nat.le_trans I.ok.above (Nat.le_of_lt I.lt)
theorem Inv.nofs (I : Inv X pins σ H s) {a : Addr} (h : s.heap.objs.size ≤ a) : a ∉ X.fs := fun hb => by
  obtain ⟨_, o, ho, _⟩ := I.ok.funs.mem hb
  exact absurd (Nat.lt_of_lt_of_le (Heap.lt_size ho) (Nat.le_trans I.sz h)) (Nat.lt_irrefl _)
theorem Inv.cne (I : Inv X pins σ H s) : ∀ x c, X.env.cells.lookup x = some c → c ≠ X.env.locals := fun x c e z => by
  obtain ⟨v, o, ho, hd⟩ := I.cell x c e
  obtain ⟨m, ⟨o', es, ep, ho', hd', _⟩, _⟩ := I.loc
  rw [z, ho'] at ho; cases ho; rw [hd'] at hd; cases hd
theorem Inv.funs (I : Inv X pins σ H s) : s.heap.FunFrames X.base X.outer := by
  have all : ∀ (l : List Env), (∀ b ∈ frs l, b ∈ X.fs) → X.s₀.heap.FunFrames X.base l → s.heap.FunFrames X.base l := by
    intro l
    induction l with
    | nil => intro _ _; trivial
    | cons env r ih =>
      intro hs hl
      obtain ⟨hk, ⟨L, o, hf, hn, ho, hd⟩, hr⟩ := hl
      have hL : L ∈ X.fs := hs L (by unfold frs; rw [List.filterMap_cons, hf]; exact List.mem_cons_self)
      obtain ⟨sl, e⟩ := I.base.slot L o ho (I.ok.frf L hL) hL fun z => I.ok.exfs L z hL
      exact ⟨hk, ⟨L, _, hf, hn, e, hd⟩, ih (fun b hb => hs b (by unfold frs; rw [List.filterMap_cons, hf]; exact List.mem_cons_of_mem _ hb)) hr⟩
  exact all X.outer (fun _ hb => hb) I.ok.funs

/-- the frames that run, for a call -/
theorem Inv.stack (I : Inv X pins σ H s) : s.heap.FunFrames X.base X.stack := by
  rcases I.ok.stk with e | ⟨e, hf⟩
  · rw [e]; exact I.funs
  · rw [e]
    obtain ⟨m, hn, _⟩ := I.loc
    refine .cons (by rw [I.ok.kind]; decide) hf hn ?_ I.funs
    exact Heap.get?_none_of_le (Nat.le_trans I.ok.bsz I.ok.above)
theorem Inv.stkSub (I : Inv X pins σ H s) : ∀ b ∈ frs X.stack, b ∈ X.env.locals :: X.fs := fun b hb => by
  rcases I.ok.stk with e | ⟨e, hf⟩
  · rw [e] at hb; exact List.mem_cons_of_mem _ hb
  · rw [e] at hb
    unfold frs at hb
    rw [List.filterMap_cons, hf] at hb
    exact hb
theorem Inv.stkFree (I : Inv X pins σ H s) : ∀ b ∈ frs X.stack, H b = none := fun b hb => by
  rcases List.mem_cons.mp (I.stkSub b hb) with e | hb
  · rw [e]; exact I.free
  · obtain ⟨_, o, ho, _⟩ := I.ok.funs.mem hb
    exact I.base.free b o ho (I.ok.frf b hb) fun z => I.ok.exfs b z hb

/-- THE STEP: the untracked objects but the frame and the records at ch are kept (the callers' frames up to slots), the frame's map is kept, the new abstract heap is held -/
theorem Inv.step {g' : Array GenState} {t' : Nat} {d' : Drawn} {ch : List Addr} (I : Inv X pins σ H s)
    (hch : ∀ b ∈ ch, (b ∈ X.ex ∨ X.s₀.heap.objs.size ≤ b) ∧ b ≠ X.env.locals ∧ (∀ x c, X.env.cells.lookup x = some c → c ≠ b) ∧ ∀ p ∈ X.pn ++ pins, p.1 ≠ b)
    (keep : ∀ b o, b ≠ X.env.locals → b ∉ X.fs → b ∉ ch → s.heap.get? b = some o → H b = none → h'.get? b = some o)
    (slot : ∀ b o, b ≠ X.env.locals → b ∈ X.fs → b ∉ ch → s.heap.get? b = some o → H b = none → ∃ sl, h'.get? b = some { o with slots := sl }) (free : ∀ b o, b ∉ ch → s.heap.get? b = some o → H b = none → H' b = none)
    (there : ∀ b o, b ∉ ch → s.heap.get? b = some o → ∃ o', h'.get? b = some o')
    (tups : ∀ b xs, H b = some (.tup xs) → H' b = some (.tup xs)) (frzs : ∀ b o u, H b = some (.frz o u) → H' b = some (.frz o u)) (tbls : ∀ b ps, H b = some (.tbl ps) → ∃ more, H' b = some (.tbl (ps ++ more)))
    (ns : ∀ m, s.heap.Ns X.env.locals m → h'.Ns X.env.locals m) (hok : HOk X.prog X.w H' h') (hg : AllBare g') :
    Inv X pins σ H' { s with heap := h', gens := g', drawn := d', toks := t' } := by
  have neL : ∀ b o, X.s₀.heap.get? b = some o → b ≠ X.env.locals := fun b o e => Nat.ne_of_lt (Nat.lt_of_lt_of_le (Heap.lt_size e) I.ok.above)
  have neC : ∀ b o, X.s₀.heap.get? b = some o → b ∉ X.ex → b ∉ ch := fun b o e hx hb => by
    rcases (hch b hb).1 with z | z
    · exact hx z
    · exact absurd (Nat.lt_of_lt_of_le (Heap.lt_size e) z) (Nat.lt_irrefl _)
  have cellK : ∀ x c, X.env.cells.lookup x = some c → ∀ v, s.heap.IsCell c v → h'.IsCell c v := fun x c e v ⟨o, ho, hd⟩ => by
    have nch : c ∉ ch := fun z => (hch c z).2.2.1 x c e rfl
    by_cases hc : c ∈ X.fs
    · obtain ⟨sl, q⟩ := slot c o (I.cne x c e) hc nch ho (I.freeC x c e)
      exact ⟨_, q, hd⟩
    · exact ⟨o, keep c o (I.cne x c e) hc nch ho (I.freeC x c e), hd⟩
  refine ⟨I.ok, I.os, hg, ⟨fun b o e n hb hx => ?_, fun b o e n hb hx => ?_, fun b o e n hx => ?_, fun b o e hx => ?_, fun b xs e => tups b xs (I.base.tups b xs e), fun b o xs e => frzs b o xs (I.base.frzs b o xs e), fun b ps e => ?_⟩, ?_, fun x c e => ?_, ?_, fun x c e => ?_, fun p hp => ?_, hok, I.len⟩
  · exact keep b o (neL b o e) hb (neC b o e hx) (I.base.keep b o e n hb hx) (I.base.free b o e n hx)
  · obtain ⟨sl, e1⟩ := I.base.slot b o e n hb hx
    obtain ⟨sl', e2⟩ := slot b _ (neL b o e) hb (neC b o e hx) e1 (I.base.free b o e n hx)
    exact ⟨sl', e2⟩
  · obtain ⟨o', e1⟩ := I.base.there b o e hx
    exact free b o' (neC b o e hx) e1 (I.base.free b o e n hx)
  · obtain ⟨o', e1⟩ := I.base.there b o e hx
    exact there b o' (neC b o e hx) e1
  · obtain ⟨m1, e1⟩ := I.base.tbls b ps e
    obtain ⟨m2, e2⟩ := tbls b _ e1
    exact ⟨m1 ++ m2, by rw [e2, Array.append_assoc]⟩
  · obtain ⟨m, hn, hl⟩ := I.loc
    refine ⟨m, ns m hn, fun i x v e1 e2 e3 => ?_⟩
    obtain ⟨u, r, l⟩ := hl i x v e1 e2 e3
    refine ⟨u, r, ?_⟩
    rcases l with l | ⟨k, c, e, z⟩
    · exact .inl l
    · exact .inr ⟨k, c, e, cellK x c e _ z⟩
  · obtain ⟨v, z⟩ := I.cell x c e
    exact ⟨v, cellK x c e v z⟩
  · obtain ⟨m, ⟨o, _, _, ho, _⟩, _⟩ := I.loc
    exact free _ o (fun z => (hch _ z).2.1 rfl) ho I.free
  · obtain ⟨v, o, ho, hd⟩ := I.cell x c e
    exact free c o (fun z => (hch c z).2.2.1 x c e rfl) ho (I.freeC x c e)
  · obtain ⟨e, n, ne, nf, d⟩ := I.pin p hp
    have nch : p.1 ∉ ch := fun z => (hch p.1 z).2.2.2 p hp rfl
    exact ⟨keep p.1 p.2 ne nf nch e n, free p.1 p.2 nch e n, ne, nf, d⟩
/-- .. where the frame's own object is kept too -/
theorem Inv.un {t' : Nat} (I : Inv X pins σ H s) (u : Un X.fs [] H H' s.heap h') (hok : HOk X.prog X.w H' h') : Inv X pins σ H' { s with heap := h', toks := t' } := by
  obtain ⟨m, ⟨o, es, ep, ho, r⟩, _⟩ := id I.loc
  obtain ⟨sl, hL⟩ := u.any ho I.free (by simp)
  exact I.step (g' := s.gens) (d' := s.drawn) (ch := []) (fun _ z => nomatch z) (fun b o _ hb _ e n => u.keep b o e n hb (by simp)) (fun b o _ hb _ e n => u.slot b o e n hb (by simp)) (fun b o _ e n => u.free b o e n (by simp)) (fun b o _ e => u.there b o e (by simp)) u.tups u.frzs u.tbls (fun m' hm => by
    obtain ⟨o', es', ep', ho', r'⟩ := hm
    rw [ho] at ho'; cases ho'
    exact ⟨_, es', ep', hL, r'⟩) hok I.bare
/-- behind a call (or a comprehension's block): the slots of this frame may have changed too, the records at ch may have turned -/
theorem Inv.call {g' : Array GenState} {t' : Nat} {d' : Drawn} {ch : List Addr} (I : Inv X pins σ H s) (u : Un (frs X.stack) ch H H' s.heap h') (hok : HOk X.prog X.w H' h') (hg : AllBare g')
    (hch : ∀ b ∈ ch, (b ∈ X.ex ∨ X.s₀.heap.objs.size ≤ b) ∧ b ≠ X.env.locals ∧ (∀ x c, X.env.cells.lookup x = some c → c ≠ b) ∧ ∀ p ∈ X.pn ++ pins, p.1 ≠ b) :
    Inv X pins σ H' { s with heap := h', gens := g', drawn := d', toks := t' } := by
  obtain ⟨m, ⟨o, es, ep, ho, r⟩, _⟩ := id I.loc
  obtain ⟨sl, hL⟩ := u.any ho I.free fun z => (hch _ z).2.1 rfl
  exact I.step (ch := ch) hch (fun b o hL hb hc e n => u.keep b o e n (fun z => (List.mem_cons.mp (I.stkSub b z)).elim hL hb) hc) (fun b o _ _ hc e n => u.any e n hc) (fun b o hc e n => u.free b o e n hc) (fun b o hc e => u.there b o e hc) u.tups u.frzs u.tbls (fun m' hm => by
    obtain ⟨o', es', ep', ho', r'⟩ := hm
    rw [ho] at ho'; cases ho'
    exact ⟨_, es', ep', hL, r'⟩) hok hg
/-- an untracked record of ours (an iterator) has turned -/
theorem Inv.turned {t' : Nat} {it : Addr} (I : Inv X pins σ H s) (k : ∀ b o, b ≠ it → s.heap.get? b = some o → h'.get? b = some o) (hn : H it = none) (hL : it ≠ X.env.locals)
    (h1 : it ∈ X.ex ∨ X.s₀.heap.objs.size ≤ it) (h2 : ∀ x c, X.env.cells.lookup x = some c → c ≠ it) (h3 : ∀ p ∈ X.pn ++ pins, p.1 ≠ it) : Inv X pins σ H { s with heap := h', toks := t' } := by
  have nit : ∀ b u, H b = some u → b ≠ it := fun b u e z => by rw [z, hn] at e; cases e
  refine I.step (g' := s.gens) (d' := s.drawn) (ch := [it]) (fun b hb => ?_) (fun b o _ _ hc e _ => k b o (fun z => hc (by simp [z])) e) (fun b o _ _ hc e _ => ⟨o.slots, k b o (fun z => hc (by simp [z])) e⟩) (fun _ _ _ _ n => n)
    (fun b o hc e => ⟨o, k b o (fun z => hc (by simp [z])) e⟩) (fun _ _ e => e) (fun _ _ _ e => e) (fun b ps e => ⟨#[], by rw [e]; simp⟩) (fun m hm => ?_) (fun b u e => ?_) I.bare
  · have e : b = it := by simpa using hb
    subst e
    exact ⟨h1, hL, h2, h3⟩
  · obtain ⟨o, es, ep, ho, r⟩ := hm
    exact ⟨o, es, ep, k _ o (Ne.symm hL) ho, r⟩
  · refine (I.hok b u e).stay (fun c v hc q => k c v ?_ q) (fun _ q => q) fun _ _ q => q
    rcases hc with z | z
    · rw [z]; exact nit b u e
    · exact nit c _ z
theorem Inv.tok (I : Inv X pins σ H s) (t : Nat) : Inv X pins σ H { s with toks := t } := I.un (h' := s.heap) (t' := t) Un.refl I.hok
/-- all objects kept -/
theorem Inv.kept {t' : Nat} (I : Inv X pins σ H s) (k : ∀ b u, s.heap.get? b = some u → h'.get? b = some u) : Inv X pins σ H { s with heap := h', toks := t' } := I.un (Un.kept k) (I.hok.kept k)
/-- a new object laid and tracked -/
theorem Inv.laid {a : Addr} {o : HO} {t' : Nat} (I : Inv X pins σ H s) (k : ∀ b u, s.heap.get? b = some u → h'.get? b = some u) (hp : s.heap.objs.size ≤ a) (new : ObjOk X.prog X.w (upd H a o) h' a o) :
    Inv X pins σ (upd H a o) { s with heap := h', toks := t' } := I.un (Un.laid k hp (I.hok.fresh hp)) (I.hok.laid k hp new)
/-- an object written -/
theorem Inv.write {x e : Addr} {o : HO} {t' : Nat} (I : Inv X pins σ H s) (mu : Mut (H x)) (he : e = x ∨ H e = some (.own x)) (k : ∀ b u, b ≠ e → s.heap.get? b = some u → h'.get? b = some u) (heo : ∃ u, h'.get? e = some u)
    (new : ObjOk X.prog X.w (upd H x o) h' x o) : Inv X pins σ (upd H x o) { s with heap := h', toks := t' } := I.un (Un.write mu he k heo) (I.hok.write mu he k heo new)
theorem Inv.pins_of {pins' : List (Addr × Obj)} (I : Inv X pins σ H s) (h : ∀ p ∈ pins', s.heap.get? p.1 = some p.2 ∧ H p.1 = none ∧ p.1 ≠ X.env.locals ∧ p.1 ∉ X.fs ∧ ∀ v, p.2.data ≠ .cell v) : Inv X pins' σ H s :=
  ⟨I.ok, I.os, I.bare, I.base, I.loc, I.cell, I.free, I.freeC, fun p hp => (List.mem_append.mp hp).elim (fun z => I.pin p (List.mem_append_left _ z)) (h p), I.hok, I.len⟩

theorem nodup_ix {N : List Str} (hN : N.Nodup) {i j : Nat} {x : Str} (a : N[i]? = some x) (b : N[j]? = some x) : i = j := by
  obtain ⟨h1, e1⟩ := List.getElem?_eq_some_iff.mp a
  obtain ⟨h2, e2⟩ := List.getElem?_eq_some_iff.mp b
  exact (List.getElem_inj hN).mp (e1.trans e2.symm)

/-- a name is stored; what changed -/
theorem store_ok2 {M : Model} {A : Around} {E : Value → Shared → Prop} {i : Nat} {x : Str} {v : V} {u : Value} {Q : Unit → Shared → Prop} (I : Inv X pins σ H s) (hN : X.N.Nodup) (hi : X.N[i]? = some x) (hx : Loc X.env.scope x) (r : RelV v u)
    (h : ∀ s', Inv X pins (σ.set i (some v)) H s' → (∃ a, Heap.SameBut a s.heap s'.heap ∧ (a = X.env.locals ∨ X.env.cells.lookup x = some a)) → Q () s') (hf : X.fn x = true ∨ X.env.scope.names.lookup x = some .local := by first | exact .inl rfl | exact .inr rfl | assumption) : wpAny M A (storeName X.env x u) Q E s := by
  obtain ⟨m, hn, hl⟩ := id I.loc
  have hcls : (X.env.scope.kind == .class || (X.env.scope.kind == .module && X.env.locals != X.env.globals)) = false := by rw [I.ok.kind]; rfl
  have hiσ : i < σ.length := by rw [I.len]; exact (List.getElem?_eq_some_iff.mp hi).1
  have cne := I.cne
  have tracked : ∀ {a : Addr} {h' : Heap}, (∃ o, s.heap.get? a = some o ∧ H a = none) → Heap.SameBut a s.heap h' → HOk X.prog X.w H h' := fun {a h'} ha hs b ob e => by
    obtain ⟨_, _, hfree⟩ := ha
    refine (I.hok b ob e).stay (fun c w' hc q => (hs.2 c ?_).trans q) (fun _ q => q) fun _ _ q => q
    rintro rfl
    rcases hc with rfl | hc
    · rw [hfree] at e; cases e
    · rw [hfree] at hc; cases hc
  rcases hx with hk | hk
  · refine wpAny_storeName_local hk hn (fun h' hn' hs => ?_) hcls
    obtain ⟨oL, _, _, hoL, _⟩ := id hn
    refine h _ ⟨I.ok, I.os, I.bare, ⟨fun b o e n hb hx => ?_, fun b o e n hb hx => ?_, I.base.free, fun b o e hx => ?_, I.base.tups, I.base.frzs, I.base.tbls⟩, ⟨_, hn', fun j y v' e1 e2 e3 => ?_⟩, fun y c e => ?_, I.free, I.freeC, fun p hp => ?_, tracked ⟨oL, hoL, I.free⟩ hs, by simpa using I.len⟩ ⟨_, hs, .inl rfl⟩
    · exact (hs.2 b (Nat.ne_of_lt (Nat.lt_of_lt_of_le (Heap.lt_size e) I.ok.above))).trans (I.base.keep b o e n hb hx)
    · obtain ⟨sl, e1⟩ := I.base.slot b o e n hb hx
      exact ⟨sl, (hs.2 b (Nat.ne_of_lt (Nat.lt_of_lt_of_le (Heap.lt_size e) I.ok.above))).trans e1⟩
    · obtain ⟨o', e1⟩ := I.base.there b o e hx
      exact ⟨o', (hs.2 b (Nat.ne_of_lt (Nat.lt_of_lt_of_le (Heap.lt_size e) I.ok.above))).trans e1⟩
    · by_cases hj : j = i
      · subst hj
        rw [hi] at e1; cases e1
        rw [List.getElem?_set_self hiσ] at e2
        cases e2
        exact ⟨u, r, .inl ⟨hk, by simp⟩⟩
      · rw [List.getElem?_set_ne (Ne.symm hj)] at e2
        obtain ⟨u', r', q⟩ := hl j y v' e1 e2 e3
        refine ⟨u', r', ?_⟩
        rcases q with ⟨k, e⟩ | ⟨k, c, e, z⟩
        · refine .inl ⟨k, ?_⟩
          have : y ≠ x := fun e => hj (nodup_ix hN e1 (e ▸ hi))
          simp [this, e]
        · exact .inr ⟨k, c, e, z.sameBut hs (cne y c e)⟩
    · obtain ⟨w', z⟩ := I.cell y c e
      exact ⟨w', z.sameBut hs (cne y c e)⟩
    · obtain ⟨e, n, ne, nf, d⟩ := I.pin p hp
      exact ⟨(hs.2 p.1 ne).trans e, n, ne, nf, d⟩
  · have hfn : X.fn x = true := by
      rcases hf with z | z
      · exact z
      · rw [z] at hk; cases hk
    obtain ⟨c, hc⟩ := I.ok.has x (.inl hk)
    obtain ⟨w', z⟩ := I.cell x c hc
    refine wpAny_storeName_cell I.ok.kind hk hc z (fun h' hc' hs => ?_)
    obtain ⟨oc, hoc, hocd⟩ := id z
    refine h { s with heap := h' } ⟨I.ok, I.os, I.bare, ⟨fun b o e n hb hx => ?_, fun b o e n hb hx => ?_, I.base.free, fun b o e hx => ?_, I.base.tups, I.base.frzs, I.base.tbls⟩, ⟨m, hn.sameBut hs (Ne.symm (cne x c hc)), fun j y v' e1 e2 e3 => ?_⟩, fun y c' e => ?_, I.free, I.freeC, fun p hp => ?_, tracked ⟨oc, hoc, I.freeC x c hc⟩ hs, by simpa using I.len⟩ ⟨c, hs, .inr hc⟩
    · exact (hs.2 b (Nat.ne_of_lt (Nat.lt_of_lt_of_le (Heap.lt_size e) (I.ok.cab x c hfn hc)))).trans (I.base.keep b o e n hb hx)
    · obtain ⟨sl, e1⟩ := I.base.slot b o e n hb hx
      exact ⟨sl, (hs.2 b (Nat.ne_of_lt (Nat.lt_of_lt_of_le (Heap.lt_size e) (I.ok.cab x c hfn hc)))).trans e1⟩
    · obtain ⟨o', e1⟩ := I.base.there b o e hx
      exact ⟨o', (hs.2 b (Nat.ne_of_lt (Nat.lt_of_lt_of_le (Heap.lt_size e) (I.ok.cab x c hfn hc)))).trans e1⟩
    · by_cases hj : j = i
      · subst hj
        rw [hi] at e1; cases e1
        rw [List.getElem?_set_self hiσ] at e2
        cases e2
        exact ⟨u, r, .inr ⟨.inl hk, c, hc, hc'⟩⟩
      · rw [List.getElem?_set_ne (Ne.symm hj)] at e2
        obtain ⟨u', r', q⟩ := hl j y v' e1 e2 e3
        refine ⟨u', r', ?_⟩
        rcases q with q | ⟨k, c', e, z'⟩
        · exact .inl q
        · refine .inr ⟨k, c', e, z'.sameBut hs ?_⟩
          rintro rfl
          exact hj (nodup_ix hN e1 (I.ok.inj _ _ _ e hc ▸ hi))
    · by_cases hcc : c' = c
      · subst hcc; exact ⟨_, hc'⟩
      · obtain ⟨w2, z2⟩ := I.cell y c' e
        exact ⟨w2, z2.sameBut hs hcc⟩
    · obtain ⟨e, n, ne, nf, d⟩ := I.pin p hp
      refine ⟨(hs.2 p.1 ?_).trans e, n, ne, nf, d⟩
      intro q
      rw [q, hoc] at e
      have q' : oc = p.2 := Option.some.inj e
      exact d w' (by rw [← q']; exact hocd)
theorem store_ok {M : Model} {A : Around} {E : Value → Shared → Prop} {i : Nat} {x : Str} {v : V} {u : Value} {Q : Unit → Shared → Prop} (I : Inv X pins σ H s) (hN : X.N.Nodup) (hi : X.N[i]? = some x) (hx : Loc X.env.scope x) (r : RelV v u)
    (h : ∀ s', Inv X pins (σ.set i (some v)) H s' → Q () s') (hf : X.fn x = true ∨ X.env.scope.names.lookup x = some .local := by first | exact .inl rfl | exact .inr rfl | assumption) : wpAny M A (storeName X.env x u) Q E s :=
  store_ok2 I hN hi hx r (fun s' I' _ => h s' I') hf
/-- behind a call or a block, the state as it is -/
theorem Inv.call' {s' : Shared} {ch : List Addr} (I : Inv X pins σ H s) (ho : s'.os = s.os) (u : Un (frs X.stack) ch H H' s.heap s'.heap) (hok : HOk X.prog X.w H' s'.heap) (hg : AllBare s'.gens)
    (hch : ∀ b ∈ ch, (b ∈ X.ex ∨ X.s₀.heap.objs.size ≤ b) ∧ b ≠ X.env.locals ∧ (∀ x c, X.env.cells.lookup x = some c → c ≠ b) ∧ ∀ p ∈ X.pn ++ pins, p.1 ≠ b) : Inv X pins σ H' s' := by
  obtain ⟨h', g', d', t', o'⟩ := s'
  have e : o' = s.os := ho
  subst e
  exact I.call (g' := g') (t' := t') (d' := d') u hok hg hch
end

/-! ### the judgements -/
/-- an exception: its class, its own dict's address (where it has one), the abstract heap behind it -/
abbrev XK := Value → Option Addr → Hp → Prop
abbrev St := List (Option V)
abbrev VK := V → Hp → Prop
/-- an expression's reading; a test's; an argument list's -/
abbrev TE := St → Hp → VK → Prop
abbrev TT := St → Hp → (Bool → Hp → Prop) → Prop
abbrev TA := St → Hp → (List V → Hp → Prop) → Prop
/-- what is wanted behind a statement -/
structure Ends where
  nx : St → Hp → Prop
  rt : VK
  bk : St → Hp → Prop := fun _ _ => False
  ct : St → Hp → Prop := fun _ _ => False
abbrev TS := Ends → St → Hp → Prop

def EP (X : Cx) (pins : List (Addr × Obj)) (σ : St) (Q : VK) (u : Value) (s' : Shared) : Prop := ∃ v H', Inv X pins σ H' s' ∧ RelV v u ∧ Q v H'
def TP (X : Cx) (pins : List (Addr × Obj)) (σ : St) (Q : Bool → Hp → Prop) (b : Bool) (s' : Shared) : Prop := ∃ H', Inv X pins σ H' s' ∧ Q b H'
def AP (X : Cx) (pins : List (Addr × Obj)) (σ : St) (Q : List V → Hp → Prop) (us : List Value) (s' : Shared) : Prop := ∃ vs H', Inv X pins σ H' s' ∧ Vals vs us ∧ Q vs H'
def SP (X : Cx) (pins : List (Addr × Obj)) (D : Ends) (f : Flow) (s' : Shared) : Prop :=
  match f with
  | .next => ∃ σ' H', Inv X pins σ' H' s' ∧ D.nx σ' H'
  | .brk => ∃ σ' H', Inv X pins σ' H' s' ∧ D.bk σ' H'
  | .cont => ∃ σ' H', Inv X pins σ' H' s' ∧ D.ct σ' H'
  | .ret u => ∃ v σ' H', Inv X pins σ' H' s' ∧ RelV v u ∧ D.rt v H'

def PE (X : Cx) (e : Expr) (t : TE) : Prop :=
  ∀ (pins : List (Addr × Obj)) (s : Shared) (σ : St) (H : Hp) (Q : VK), Inv X pins σ H s → t σ H Q → wpAny (model X.prog X.w) X.A (eval e X.env) (EP X pins σ Q) X.xe s
def PT (X : Cx) (e : Expr) (t : TT) : Prop :=
  ∀ (pins : List (Addr × Obj)) (s : Shared) (σ : St) (H : Hp) (Q : Bool → Hp → Prop), Inv X pins σ H s → t σ H Q → wpAny (model X.prog X.w) X.A (isTrue e X.env (eval e X.env)) (TP X pins σ Q) X.xe s
/-- a test whatever its 'whole' is (and, or) -/
def PW (X : Cx) (e : Expr) (t : TT) : Prop :=
  ∀ (whole : Sem Value) (pins : List (Addr × Obj)) (s : Shared) (σ : St) (H : Hp) (Q : Bool → Hp → Prop), Inv X pins σ H s → t σ H Q → wpAny (model X.prog X.w) X.A (isTrue e X.env whole) (TP X pins σ Q) X.xe s
theorem PW.pt {X : Cx} {e : Expr} {t : TT} (h : PW X e t) : PT X e t := h _
/-- an argument list (no star), from the left -/
def PA (X : Cx) (es : List Expr) (t : TA) : Prop :=
  ∀ (pos : Pos) (pins : List (Addr × Obj)) (s : Shared) (σ : St) (H : Hp) (Q : List V → Hp → Prop), Inv X pins σ H s → t σ H Q → wpAny (model X.prog X.w) X.A (spliced (backTo pos (starEach es X.env))) (AP X pins σ Q) X.xe s
def PS (X : Cx) (st : Stmt) (t : TS) : Prop :=
  ∀ (pins : List (Addr × Obj)) (s : Shared) (σ : St) (H : Hp) (D : Ends), Inv X pins σ H s → t D σ H → wpAny (model X.prog X.w) X.A (exec st X.env) (SP X pins D) X.xe s
def PSs (X : Cx) (st : List Stmt) (t : TS) : Prop :=
  ∀ (pins : List (Addr × Obj)) (s : Shared) (σ : St) (H : Hp) (D : Ends), Inv X pins σ H s → t D σ H → wpAny (model X.prog X.w) X.A (execs st X.env) (SP X pins D) X.xe s
/-- weaken the end -/
theorem thn {α : Type} {t : Sem α} {Q Q' : α → Shared → Prop} {M : Model} {A : Around} {E : Value → Shared → Prop} {s : Shared} (h : wpAny M A t Q E s) (hQ : ∀ a s, Q a s → Q' a s) : wpAny M A t Q' E s := wpAny_mono h hQ fun _ _ x => x
end L2

namespace L2
open PySem PySem.Spec PyProof.Rows
section
variable {X : Cx}

/-- two expressions in a row -/
theorem bin {a b : Expr} {ta tb : TE} (ha : PE X a ta) (hb : PE X b tb) {pins : List (Addr × Obj)} {s : Shared} {σ : St} {H : Hp} {R : V → V → Hp → Prop} (I : Inv X pins σ H s) (h : ta σ H fun x H1 => tb σ H1 fun y H2 => R x y H2)
    {α : Type} {Q : α → Shared → Prop} {f : Value → Value → Sem α}
    (hf : ∀ v u s2 x y H2, Inv X pins σ H2 s2 → RelV x v → RelV y u → R x y H2 → wpAny (model X.prog X.w) X.A (f v u) Q X.xe s2) :
    wpAny (model X.prog X.w) X.A (eval a X.env) (fun v s₁ => wpAny (model X.prog X.w) X.A (eval b X.env) (fun u s₂ => wpAny (model X.prog X.w) X.A (f v u) Q X.xe s₂) X.xe s₁) X.xe s := by
  refine thn (ha pins s σ H _ I h) fun v s1 ⟨x, H1, I1, r1, q1⟩ => ?_
  refine thn (hb pins s1 σ H1 _ I1 q1) fun u s2 ⟨y, H2, I2, r2, q2⟩ => ?_
  exact hf v u s2 x y H2 I2 r1 r2 q2

/-! ### names and constants -/
def tVar (i : Nat) : TE := fun σ H Q => ∃ v, σ[i]? = some (some v) ∧ Q v H
def tC (v : V) : TE := fun _ H Q => Q v H
theorem pe_var {i : Nat} {x : Str} {pos : Pos} (hN : X.N[i]? = some x) (hv : Vis X.env.scope x) (hd : (x == ("__debug__" : Str)) = false := by decide) (hcd : (x == ("__classdict__" : Str)) = false := by decide) : PE X (.Name x pos) (tVar i) := by
  intro pins s σ H Q I h
  obtain ⟨v, e, h⟩ := h
  obtain ⟨m, hn, hl⟩ := I.loc
  obtain ⟨u, r, l⟩ := hl i x v hN e hv
  have fin : EP X pins σ Q u s := ⟨v, H, I, r, h⟩
  rcases l with ⟨hk, hm⟩ | ⟨hk, c, hc, hcell⟩
  · exact wpAny_Name (wpAny_loadName_local I.ok.kind hk hn hm fin) hd
  · rcases hk with hk | hk
    · exact wpAny_Name (wpAny_loadName_cell I.ok.kind hk hc hcell fin) hd
    · exact wpAny_Name (wpAny_loadName_free I.ok.kind hk hc hcell fin hcd) hd
theorem pe_int {i j pos} : PE X (.Constant (.int i) j pos) (tC (.int i)) := fun _ _ _ H _ I h => wpAny_Constant_int ⟨.int i, H, I.tok _, ⟨_, rfl⟩, h⟩
theorem pe_bl {b j pos} : PE X (.Constant (.bool b) j pos) (tC (.bl b)) := fun _ _ _ H _ I h => Constant_bool ⟨.bl b, H, I, rfl, h⟩
theorem pe_non {j pos} : PE X (.Constant .none j pos) (tC .non) := fun _ _ _ H _ I h => Constant_none ⟨.non, H, I, rfl, h⟩
theorem pe_str {x j pos} : PE X (.Constant (.str x) j pos) (tC (.str x)) := fun _ _ _ H _ I h => Calls.Constant_str ⟨.str x, H, I.tok _, ⟨_, rfl⟩, h⟩

/-- a global name of the def -/
def Gl (X : Cx) (x : Str) : Prop := X.env.kindOf x = some .globalImplicit
theorem ld_glob {E : Value → Shared → Prop} {pins : List (Addr × Obj)} {s : Shared} {σ : St} {H : Hp} {x : Str} {u : Value} {pos : Pos} {Q : Value → Shared → Prop} (I : Inv X pins σ H s) (hg : Gl X x) (hm : X.mg x = some u) (h : Q u s)
    (hd : (x == ("__debug__" : Str)) = false := by decide) : wpAny (model X.prog X.w) X.A (eval (.Name x pos) X.env) Q E s :=
  Calls.Name_function_global I.ok.kind hg (Calls.loadGlobal_global (by rw [I.ok.glob]; exact I.mod.glob.keeps I.bk) hm h) hd
theorem ld_blt {E : Value → Shared → Prop} {pins : List (Addr × Obj)} {s : Shared} {σ : St} {H : Hp} {x : Str} {u : Value} {pos : Pos} {Q : Value → Shared → Prop} (I : Inv X pins σ H s) (hg : Gl X x) (hm : X.mg x = none) (hv : bootBuiltins x = some u) (h : Q u s)
    (hn : x ≠ "__name__" := by decide) (hd : (x == ("__debug__" : Str)) = false := by decide) : wpAny (model X.prog X.w) X.A (eval (.Name x pos) X.env) Q E s := by
  obtain ⟨mb, h1, h2⟩ := I.mod.blt
  exact Calls.Name_function_global I.ok.kind hg (Calls.loadGlobal_builtin (by rw [I.ok.glob]; exact I.mod.glob.keeps I.bk) hm (by rw [I.ok.blt]; exact h1.keeps I.bk) ((h2 x hn).trans hv) h) hd
/-- a module's constant, a class, a function, as a value -/
theorem pe_glob {x : Str} {v : V} {u : Value} {pos : Pos} (hg : Gl X x) (hm : X.mg x = some u) (r : RelV v u) (hd : (x == ("__debug__" : Str)) = false := by decide) : PE X (.Name x pos) (tC v) :=
  fun _ _ _ H _ I h => ld_glob I hg hm ⟨v, H, I, r, h⟩ hd
theorem pe_bltn {x : Str} {v : V} {u : Value} {pos : Pos} (hg : Gl X x) (hm : X.mg x = none) (hv : bootBuiltins x = some u) (r : RelV v u) (hn : x ≠ "__name__" := by decide) (hd : (x == ("__debug__" : Str)) = false := by decide) : PE X (.Name x pos) (tC v) :=
  fun _ _ _ H _ I h => ld_blt I hg hm hv ⟨v, H, I, r, h⟩ hn hd

/-! ### arithmetic -/
variable {a b : Expr} {ta tb : TE} {pos : Pos}

/-! ### comparisons -/
def PC (X : Cx) (op : CmpOp) (a b : Expr) (t : TE) : Prop :=
  ∀ (pins : List (Addr × Obj)) (s : Shared) (σ : St) (H : Hp) (Q : VK), Inv X pins σ H s → t σ H Q →
    wpAny (model X.prog X.w) X.A (eval a X.env) (fun v s₁ => wpAny (model X.prog X.w) X.A (eval b X.env) (fun u s₂ => wpAny (model X.prog X.w) X.A (compareOp op v u) (EP X pins σ Q) X.xe s₂) X.xe s₁) X.xe s
theorem nobehind (b : Expr) {op : CmpOp} (h : op ≠ .In) (h2 : op ≠ .NotIn) : behindInMarks op b = false := by
  have e1 : (op == CmpOp.In) = false := by cases op <;> first | rfl | exact absurd rfl h
  have e2 : (op == CmpOp.NotIn) = false := by cases op <;> first | rfl | exact absurd rfl h2
  cases b <;> simp [behindInMarks, e1, e2]
/-- a comparison as a value, as a test -/
def tB (t : TE) : TT := fun σ H Q => t σ H fun x H1 => ∃ c, x = .bl c ∧ Q c H1
theorem pt_cmp {op : CmpOp} {t : TE} (h : PC X op a b t) (h1 : behindInMarks op b = false := by first | exact nobehind _ (by decide) (by decide) | rfl) : PT X (.Compare a [op] [b] pos) (tB t) := by
  intro pins s σ H Q I hw
  refine wpAny_isTrue_Compare1 (thn (h pins s σ H _ I hw) fun v s1 h1 => thn h1 fun u s2 h2 => thn h2 fun c s3 ⟨x, H1, I1, r1, q1⟩ => ?_) h1
  obtain ⟨d, rfl, q⟩ := q1
  cases r1
  exact wpAny_truthy_bool ⟨H1, I1, q⟩
/-- an expression whose value is a bool, as a test -/
theorem pt_val {e : Expr} {t : TE} (h : PE X e t) (he : ∀ whole, isTrue e X.env whole = (do let v ← whole; standAt e.pos; holding [v] (truthy v)) := by intro _; rfl) : PT X e (tB t) := by
  intro pins s σ H Q I hw
  refine isTrue_plain (thn (h pins s σ H _ I hw) fun v s1 ⟨x, H1, I1, r1, q1⟩ => ?_) (he _)
  obtain ⟨d, rfl, q⟩ := q1
  cases r1
  exact wpAny_truthy_bool ⟨H1, I1, q⟩

/-! ### and, or, not -/
variable {tA tB' : TT} {rest : List Expr}
def tAnd (t u : TT) : TT := fun σ H Q => t σ H fun c H1 => if c = true then u σ H1 Q else Q false H1
def tOr (t u : TT) : TT := fun σ H Q => t σ H fun c H1 => if c = true then Q true H1 else u σ H1 Q
def tNot (t : TT) : TT := fun σ H Q => t σ H fun c H1 => Q (!c) H1
theorem pw_and1 (ha : PT X a tA) : PW X (.BoolOp .And [a] pos) tA := by
  intro wh pins s σ H Q I h
  refine isTrue_and (thn (ha pins s σ H Q I h) fun c s1 e => ?_)
  cases c with
  | true => exact isTrue_and_nil e
  | false => exact e
theorem pw_or1 (ha : PT X a tA) : PW X (.BoolOp .Or [a] pos) tA := by
  intro wh pins s σ H Q I h
  refine isTrue_or (thn (ha pins s σ H Q I h) fun c s1 e => ?_)
  cases c with
  | false => exact isTrue_or_nil e
  | true => exact e
theorem pw_and (ha : PT X a tA) (hb : PW X (.BoolOp .And (b :: rest) pos) tB') : PW X (.BoolOp .And (a :: b :: rest) pos) (tAnd tA tB') := by
  intro wh pins s σ H Q I h
  refine isTrue_and (thn (ha pins s σ H _ I h) fun c s1 ⟨H1, I1, q1⟩ => ?_)
  cases c with
  | true => exact hb wh pins s1 σ H1 Q I1 q1
  | false => exact ⟨H1, I1, q1⟩
theorem pw_or (ha : PT X a tA) (hb : PW X (.BoolOp .Or (b :: rest) pos) tB') : PW X (.BoolOp .Or (a :: b :: rest) pos) (tOr tA tB') := by
  intro wh pins s σ H Q I h
  refine isTrue_or (thn (ha pins s σ H _ I h) fun c s1 ⟨H1, I1, q1⟩ => ?_)
  cases c with
  | true => exact ⟨H1, I1, q1⟩
  | false => exact hb wh pins s1 σ H1 Q I1 q1
theorem pt_not (ha : PT X a tA) : PT X (.UnaryOp .Not a pos) (tNot tA) := by
  intro pins s σ H Q I h
  exact isTrue_not (ha pins s σ H (fun c H1 => Q (!c) H1) I h)
/-- .. as values (bools) -/
def tAndV (ta tb : TE) : TE := fun σ H Q => ta σ H fun x H1 => ∃ c, x = .bl c ∧ if c = true then tb σ H1 Q else Q (.bl false) H1
def tNotV (ta : TE) : TE := fun σ H Q => ta σ H fun x H1 => ∃ c, x = .bl c ∧ Q (.bl (!c)) H1
theorem pe_one {op} {t : TE} (h : PE X a t) : PE X (.BoolOp op [a] pos) t := fun pins s σ H Q I hw => BoolOp_one (h pins s σ H Q I hw)
theorem pe_and (ha : PE X a ta) (hb : PE X (.BoolOp .And (b :: rest) pos) tb) : PE X (.BoolOp .And (a :: b :: rest) pos) (tAndV ta tb) := by
  intro pins s σ H Q I h
  refine BoolOp_and (thn (ha pins s σ H _ I h) fun v s1 ⟨x, H1, I1, r1, q1⟩ => ?_)
  obtain ⟨c, rfl, q1⟩ := q1
  cases r1
  refine wpAny_truthy_bool ?_
  cases c with
  | true => exact hb pins s1 σ H1 Q I1 q1
  | false => exact ⟨.bl false, H1, I1, rfl, q1⟩
theorem pe_not (ha : PE X a ta) : PE X (.UnaryOp .Not a pos) (tNotV ta) := by
  intro pins s σ H Q I h
  refine UnaryOp_ (thn (ha pins s σ H _ I h) fun v s1 ⟨x, H1, I1, r1, q1⟩ => ?_)
  obtain ⟨c, rfl, q1⟩ := q1
  cases r1
  exact not_of (wpAny_truthy_bool ⟨.bl (!c), H1, I1, rfl, q1⟩)
end
end L2

namespace L2
open PySem PySem.Spec PyProof.Rows

/-! ### a list, a tuple that is read: tracked, frozen, or an object of the module -/
def SqL (K : PySem.W.Frag) (H : Hp) (a : Addr) (xs : List V) : Prop :=
  Rd H a (.lst xs) ∨
    ∃ (o : Obj) (its : Array Value) (n : Nat), K.lookup a = some o ∧ o.cls = .type "list" ∧ o.dict = none ∧ o.data = .seq its n ∧ its.size ≤ sizeLine ∧ Vals xs its.toList
def SqT (K : PySem.W.Frag) (H : Hp) (a : Addr) (xs : List V) : Prop :=
  Rd H a (.tup xs) ∨
    ∃ (o : Obj) (its : Array Value) (n : Nat), K.lookup a = some o ∧ o.cls = .type "tuple" ∧ o.data = .seq its n ∧ its.size ≤ sizeLine ∧ Vals xs its.toList
def absV : Value → Option V
  | .none => some .non
  | .bool b => some (.bl b)
  | .int i _ => some (.int i)
  | .str x _ => some (.str x)
  | .bytes b _ => some (.byt b)
  | .float b _ => some (.flt b)
  | .ref a => some (.ref a)
  | .type n => some (.ty n)
  | _ => none
theorem RelV.abs {x : V} {u : Value} (r : RelV x u) : absV u = some x := by
  cases x with
  | non => cases r; rfl
  | bl _ => cases r; rfl
  | int _ => obtain ⟨t, rfl⟩ := r; rfl
  | str _ => obtain ⟨t, rfl⟩ := r; rfl
  | byt _ => obtain ⟨t, rfl⟩ := r; rfl
  | flt _ => obtain ⟨t, rfl⟩ := r; rfl
  | ref _ => cases r; rfl
  | ty _ => cases r; rfl
theorem RelV.inj {x y : V} {u : Value} (r : RelV x u) (q : RelV y u) : x = y := Option.some.inj (r.abs.symm.trans q.abs)
theorem Vals.inj : ∀ {xs ys : List V} {us : List Value}, Vals xs us → Vals ys us → xs = ys
  | _, _, _, .nil, .nil => rfl
  | _, _, _, .cons r t, .cons r' t' => by rw [r.inj r', Vals.inj t t']
section
variable {X : Cx} {pins : List (Addr × Obj)} {σ : St} {H : Hp} {s : Shared} {a : Addr} {xs ys : List V}
theorem SqL.of {K : PySem.W.Frag} (h : H a = some (.lst xs)) : SqL K H a xs := .inl (.inl h)
theorem SqT.of {K : PySem.W.Frag} (h : H a = some (.tup xs)) : SqT K H a xs := .inl (.inl h)
theorem Inv.list (I : Inv X pins σ H s) (h : SqL X.K H a xs) : ∃ its : List Value, Vals xs its ∧ PlainL s.heap a its.toArray ∧ xs.length ≤ sizeLine := by
  rcases h with h | ⟨o, its, n, hk, hc, hd, hs, hz, r⟩
  · obtain ⟨z, its, n, r, e⟩ := h.ok I.hok
    exact ⟨its, r, ⟨_, n, e, rfl, rfl, rfl⟩, z⟩
  · refine ⟨its.toList, r, ⟨o, n, I.kIn a o hk, hc, hd, by simpa using hs⟩, ?_⟩
    have e := r.length
    simp only [Array.length_toList] at e
    omega
theorem Inv.tuple (I : Inv X pins σ H s) (h : SqT X.K H a xs) : ∃ its : List Value, Vals xs its ∧ IsTup s.heap a its.toArray ∧ xs.length ≤ sizeLine := by
  rcases h with h | ⟨o, its, n, hk, hc, hs, hz, r⟩
  · obtain ⟨z, its, r, p⟩ := h.ok I.hok
    exact ⟨its, r, p, z⟩
  · refine ⟨its.toList, r, ⟨o, I.kIn a o hk, hc, n, by simpa using hs⟩, ?_⟩
    have e := r.length
    simp only [Array.length_toList] at e
    omega
theorem Inv.list_inj (I : Inv X pins σ H s) (h : SqL X.K H a xs) (h' : SqL X.K H a ys) : xs = ys := by
  obtain ⟨its, r, ⟨o, n, e, _, _, d⟩, _⟩ := I.list h
  obtain ⟨its', r', ⟨o', n', e', _, _, d'⟩, _⟩ := I.list h'
  rw [e] at e'; cases e'
  rw [d] at d'
  injection d' with d1 _
  have : its = its' := by simpa using congrArg Array.toList d1
  subst this
  exact r.inj r'
theorem Inv.tuple_inj (I : Inv X pins σ H s) (h : SqT X.K H a xs) (h' : SqT X.K H a ys) : xs = ys := by
  obtain ⟨its, r, ⟨o, e, _, n, d⟩, _⟩ := I.tuple h
  obtain ⟨its', r', ⟨o', e', _, n', d'⟩, _⟩ := I.tuple h'
  rw [e] at e'; cases e'
  rw [d] at d'
  injection d' with d1 _
  have : its = its' := by simpa using congrArg Array.toList d1
  subst this
  exact r.inj r'
end

/-! ### another wish about exceptions -/
abbrev Cx.wish (X : Cx) (E : Value → Shared → Prop) : Cx := { X with xe := E }
/-- no exception leaves -/
abbrev Cx.nox (X : Cx) : Cx := X.wish fun _ _ => False
theorem Cx.Ok.wish {X : Cx} (ok : X.Ok) (E : Value → Shared → Prop) : (X.wish E).Ok :=
  ⟨ok.mod, ok.kind, ok.glob, ok.blt, ok.above, ok.inj, ok.has, ok.cab, ok.hd, ok.frames, ok.stk, ok.exf, ok.bs, ok.bsz, ok.noex, ok.exfs, ok.funs, ok.frf⟩
theorem Cx.Ok.unwish {X : Cx} {E : Value → Shared → Prop} (ok : (X.wish E).Ok) : X.Ok :=
  ⟨ok.mod, ok.kind, ok.glob, ok.blt, ok.above, ok.inj, ok.has, ok.cab, ok.hd, ok.frames, ok.stk, ok.exf, ok.bs, ok.bsz, ok.noex, ok.exfs, ok.funs, ok.frf⟩
section
variable {X : Cx} {pins : List (Addr × Obj)} {σ : St} {H : Hp} {s : Shared} {E : Value → Shared → Prop}
theorem Inv.wish (I : Inv X pins σ H s) (E : Value → Shared → Prop) : Inv (X.wish E) pins σ H s := ⟨I.ok.wish E, I.os, I.bare, I.base, I.loc, I.cell, I.free, I.freeC, I.pin, I.hok, I.len⟩
theorem Inv.unwish (I : Inv (X.wish E) pins σ H s) : Inv X pins σ H s := ⟨I.ok.unwish, I.os, I.bare, I.base, I.loc, I.cell, I.free, I.freeC, I.pin, I.hok, I.len⟩
theorem SP.unwish {D : Ends} {f : Flow} {s' : Shared} (h : SP (X.wish E) pins D f s') : SP X pins D f s' := by
  cases f with
  | next => obtain ⟨σ', H', I, q⟩ := h; exact ⟨σ', H', I.unwish, q⟩
  | brk => obtain ⟨σ', H', I, q⟩ := h; exact ⟨σ', H', I.unwish, q⟩
  | cont => obtain ⟨σ', H', I, q⟩ := h; exact ⟨σ', H', I.unwish, q⟩
  | ret u => obtain ⟨v, σ', H', I, r, q⟩ := h; exact ⟨v, σ', H', I.unwish, r, q⟩
theorem PE.nox {e : Expr} {t : TE} (h : PE X.nox e t) : PE X e t := fun pins s σ H Q I hw =>
  wpAny_mono (h pins s σ H Q (I.wish _) hw) (fun _ _ ⟨v, H', I', r, q⟩ => ⟨v, H', I'.unwish, r, q⟩) fun _ _ z => False.elim z
theorem PT.nox {e : Expr} {t : TT} (h : PT X.nox e t) : PT X e t := fun pins s σ H Q I hw =>
  wpAny_mono (h pins s σ H Q (I.wish _) hw) (fun _ _ ⟨H', I', q⟩ => ⟨H', I'.unwish, q⟩) fun _ _ z => False.elim z
theorem PSs.nox {st : List Stmt} {t : TS} (h : PSs X.nox st t) : PSs X st t := fun pins s σ H D I hw =>
  wpAny_mono (h pins s σ H D (I.wish _) hw) (fun _ _ q => q.unwish) fun _ _ z => False.elim z
end

/-! ### blocks and small statements -/
section
variable {X : Cx} {st : Stmt} {rest : List Stmt} {t u : TS} {e : Expr} {te : TE} {pos : Pos}
def tNext : TS := fun D σ H => D.nx σ H
def tSeq (t u : TS) : TS := fun D σ H => t { D with nx := u D } σ H
theorem pss_nil : PSs X [] tNext := fun _ _ σ H _ I h => wpAny_execs_nil ⟨σ, H, I, h⟩
theorem pss_cons (h1 : PS X st t) (h2 : PSs X rest u) : PSs X (st :: rest) (tSeq t u) := by
  intro pins s σ H D I h
  refine wpAny_execs_cons (thn (h1 pins s σ H { D with nx := u D } I h) fun f s1 q => ?_)
  cases f with
  | next =>
    obtain ⟨σ', H', I', q⟩ := q
    exact h2 pins s1 σ' H' D I' q
  | ret v => exact q
  | brk => exact q
  | cont => exact q
theorem pss_one (h1 : PS X st t) : PSs X [st] t := by
  intro pins s σ H D I h
  refine wpAny_execs_cons (thn (h1 pins s σ H D I h) fun f s1 q => ?_)
  cases f with
  | next => exact wpAny_execs_nil q
  | ret v => exact q
  | brk => exact q
  | cont => exact q
/-- in a def's body nothing is shown -/
theorem Inv.quiet {pins : List (Addr × Obj)} {σ : St} {H : Hp} {s : Shared} (I : Inv X pins σ H s) : interactive X.env = false := by simp [interactive, I.ok.kind]
/-- an expression whose value is dropped -/
def tDrop (te : TE) : TS := fun D σ H => te σ H fun _ H1 => D.nx σ H1
theorem ps_expr (he : PE X e te) (hs : swapsWith e none pos.line X.env = pure false := by rfl) : PS X (.Expr e pos) (tDrop te) := by
  intro pins s σ H D I h
  exact wpAny_Expr_any (thn (he pins s σ H _ I h) fun v s1 ⟨x, H1, I1, r1, q1⟩ => ⟨σ, H1, I1, q1⟩) I.quiet hs
def tRet (te : TE) : TS := fun D σ H => te σ H D.rt
theorem ps_ret (he : PE X e te) : PS X (.Return (some e) pos) (tRet te) := by
  intro pins s σ H D I h
  exact wpAny_Return_some (thn (he pins s σ H _ I h) fun v s1 ⟨x, H1, I1, r1, q1⟩ => ⟨x, σ, H1, I1, r1, q1⟩)
def tIfS (c : TT) (t u : TS) : TS := fun D σ H => c σ H fun b H1 => if b = true then t D σ H1 else u D σ H1
theorem ps_if {c : Expr} {a b : List Stmt} {tc : TT} (hc : PT X c tc) (ha : PSs X a t) (hb : PSs X b u) : PS X (.If c a b pos) (tIfS tc t u) := by
  intro pins s σ H D I h
  refine wpAny_If (thn (hc pins s σ H _ I h) fun d s1 ⟨H1, I1, q1⟩ => ?_)
  cases d with
  | true => exact ha pins s1 σ H1 D I1 q1
  | false => exact hb pins s1 σ H1 D I1 q1
end

/-! ### targets -/
abbrev TG := V → St → Hp → (St → Hp → Prop) → Prop
abbrev TGs := List V → St → Hp → (St → Hp → Prop) → Prop
def PG (X : Cx) (target : Expr) (t : TG) : Prop :=
  ∀ (pins : List (Addr × Obj)) (s : Shared) (σ : St) (H : Hp) (v : V) (u : Value) (Q : St → Hp → Prop), Inv X pins σ H s → RelV v u → t v σ H Q →
    wpAny (model X.prog X.w) X.A (assign target X.env u) (fun _ s' => ∃ σ' H', Inv X pins σ' H' s' ∧ Q σ' H') X.xe s
/-- several targets, one after another -/
def PGs (X : Cx) (ts : List Expr) (t : TGs) : Prop :=
  ∀ (pins : List (Addr × Obj)) (s : Shared) (σ : St) (H : Hp) (vs : List V) (us : List Value) (Q : St → Hp → Prop), Inv X pins σ H s → Vals vs us → t vs σ H Q →
    wpAny (model X.prog X.w) X.A (assignInOrder ((assignEach ts X.env).map (·.2)) us) (fun _ s' => ∃ σ' H', Inv X pins σ' H' s' ∧ Q σ' H') X.xe s
/-- o[i] = v, by values -/
abbrev TSet := V → V → V → Hp → (Hp → Prop) → Prop
def PSet (X : Cx) (t : TSet) : Prop :=
  ∀ (pins : List (Addr × Obj)) (s : Shared) (σ : St) (H : Hp) (o i v : V) (ov iv u : Value) (Q : Hp → Prop), Inv X pins σ H s → RelV o ov → RelV i iv → RelV v u → t o i v H Q →
    wpAny (model X.prog X.w) X.A (setItem ov iv u) (fun _ s' => ∃ H', Inv X pins σ H' s' ∧ Q H') X.xe s
/-- a op= b, by values -/
abbrev TIp := V → V → Hp → VK → Prop
def PIp (X : Cx) (op : Operator) (t : TIp) : Prop :=
  ∀ (pins : List (Addr × Obj)) (s : Shared) (σ : St) (H : Hp) (x y : V) (v u : Value) (Q : VK), Inv X pins σ H s → RelV x v → RelV y u → t x y H Q →
    wpAny (model X.prog X.w) X.A (inplaceOp op v u) (EP X pins σ Q) X.xe s
section
variable {X : Cx} {pos : Pos}
def gName (i : Nat) : TG := fun v σ H Q => Q (σ.set i (some v)) H
theorem pg_name {i : Nat} {x : Str} (hN : X.N.Nodup) (hi : X.N[i]? = some x) (hx : Loc X.env.scope x) (hf : X.fn x = true ∨ X.env.scope.names.lookup x = some .local := by first | exact .inl rfl | exact .inr rfl | assumption) : PG X (.Name x pos) (gName i) := by
  intro pins s σ H v u Q I r h
  exact wpAny_assign_Name (store_ok I hN hi hx r (fun s' I' => ⟨_, H, I', h⟩) hf)
def gNil : TGs := fun vs σ H Q => vs = [] ∧ Q σ H
def gCons (t : TG) (u : TGs) : TGs := fun vs σ H Q => ∃ v r, vs = v :: r ∧ t v σ H fun σ' H' => u r σ' H' Q
theorem pgs_nil : PGs X [] gNil := by
  intro pins s σ H vs us Q I r h
  obtain ⟨e, h⟩ := h
  subst e
  cases r
  exact assignInOrder_nil ⟨σ, H, I, h⟩
theorem pgs_cons {e : Expr} {es : List Expr} {t : TG} {u : TGs} (h1 : PG X e t) (h2 : PGs X es u)
    (hs : (assignEach (e :: es) X.env).map (·.2) = assign e X.env :: (assignEach es X.env).map (·.2) := by rfl) : PGs X (e :: es) (gCons t u) := by
  intro pins s σ H vs us Q I r h
  obtain ⟨v, vr, e1, h⟩ := h
  subst e1
  cases r with
  | cons r rr =>
    rw [hs]
    refine assignInOrder_cons (thn (h1 pins s σ H _ _ _ I r h) fun _ s1 ⟨σ1, H1, I1, q1⟩ => ?_)
    exact h2 pins s1 σ1 H1 _ _ Q I1 rr q1
/-- (a, b, ..) = a tuple of that length -/
def gTup (K : PySem.W.Frag) (n : Nat) (t : TGs) : TG := fun v σ H Q => ∃ a xs, v = .ref a ∧ SqT K H a xs ∧ xs.length = n ∧ t xs σ H Q
theorem pg_tup {es : List Expr} {k : Nat} {t : TGs} {n : Nat} (hc : X.calm = true) (h : PGs X es t)
    (hn : (assignEach es X.env).length = n := by rfl) (hst : (assignEach es X.env).findIdx? (·.1) = none := by rfl) : PG X (.Tuple es k pos) (gTup X.K n t) := by
  intro pins s σ H v u Q I r hw
  obtain ⟨a, xs, e1, hq, hl, hw⟩ := hw
  subst e1
  cases r
  obtain ⟨its, rv, ht, hz⟩ := I.tuple hq
  refine assign_Tuple_tuple (I.ok.hd hc) ht (by simp [hn, ← hl, rv.length]) hst fun h' hx => ?_
  have I1 : Inv X pins σ H { s with heap := h' } := I.kept (t' := s.toks) fun b o e => hx b o (Nat.ne_of_lt (Heap.lt_size e)) e
  exact h pins _ σ H xs _ Q I1 (by simpa using rv) hw
/-- o[i] = .. -/
def gSub (to ti : TE) (t : TSet) : TG := fun v σ H Q => to σ H fun o H1 => ti σ H1 fun i H2 => t o i v H2 fun H3 => Q σ H3
theorem pg_sub {o i : Expr} {to ti : TE} {t : TSet} (ho : PE X o to) (hi : PE X i ti) (hs : PSet X t)
    (ha : ∀ v, assign (.Subscript o i pos) X.env v = (do
      let ov ← holding [v] (eval o X.env)
      let iv ← holding [v, ov] (eval i X.env)
      standAt pos
      holding [v, ov, iv] (setItem ov iv v)
      release [v, ov, iv] []) := by intro _; rfl) : PG X (.Subscript o i pos) (gSub to ti t) := by
  intro pins s σ H v u Q I r h
  rw [ha]
  refine wpAny_bind (wpAny_holding (thn (ho pins s σ H _ I h) fun ov s1 ⟨x, H1, I1, r1, q1⟩ => ?_))
  refine wpAny_bind (wpAny_holding (thn (hi pins s1 σ H1 _ I1 q1) fun iv s2 ⟨y, H2, I2, r2, q2⟩ => ?_))
  refine wpAny_bind (wpAny_standAt (wpAny_bind (wpAny_holding (thn (hs pins s2 σ H2 x y v ov iv u _ I2 r1 r2 r q2) fun _ s3 ⟨H3, I3, q3⟩ => ?_))))
  exact wpAny_release ⟨σ, H3, I3, q3⟩
/-- target = value -/
def tAsg (te : TE) (g : TG) : TS := fun D σ H => te σ H fun x H1 => g x σ H1 D.nx
theorem ps_asg {tg e : Expr} {te : TE} {g : TG} (he : PE X e te) (hg : PG X tg g) (hs : swapsWithSole [tg] e pos.line X.env = pure false := by rfl) (hw : swappedStores [tg] e X.env = pure none := by rfl)
    (h1 : (assignEach [tg] X.env).map (·.2) = [assign tg X.env] := by rfl) : PS X (.Assign [tg] e pos) (tAsg te g) := by
  intro pins s σ H D I h
  refine wpAny_Assign_stores (thn (he pins s σ H _ I h) fun v s1 ⟨x, H1, I1, r1, q1⟩ => ?_) hs hw
  rw [h1]
  exact thn (hg pins s1 σ H1 x v _ I1 r1 q1) fun _ s2 q => q
/-- name = value -/
theorem ps_set {i : Nat} {x : Str} {e : Expr} {te : TE} {pos' : Pos} (hN : X.N.Nodup) (hi : X.N[i]? = some x) (hx : Loc X.env.scope x) (he : PE X e te) (hs : swapsWith e (some (.Name x pos')) pos.line X.env = pure false := by rfl) (hf : X.fn x = true ∨ X.env.scope.names.lookup x = some .local := by first | exact .inl rfl | exact .inr rfl | assumption) :
    PS X (.Assign [.Name x pos'] e pos) (tAsg te (gName i)) := by
  intro pins s σ H D I h
  refine wpAny_Assign_Name (thn (he pins s σ H _ I h) fun v s1 ⟨y, H1, I1, r1, q1⟩ => ?_) hs
  exact store_ok I1 hN hi hx r1 (fun s2 I2 => ⟨_, H1, I2, q1⟩) hf
/-- name op= e -/
def tAug (i : Nat) (te : TE) (ti : TIp) : TS := fun D σ H => ∃ x, σ[i]? = some (some x) ∧ te σ H fun y H1 => ti x y H1 fun z H2 => D.nx (σ.set i (some z)) H2
theorem ps_aug {i : Nat} {x : Str} {e : Expr} {te : TE} {op : Operator} {ti : TIp} {pos' : Pos} (hN : X.N.Nodup) (hi : X.N[i]? = some x) (hx : Loc X.env.scope x) (he : PE X e te) (ho : PIp X op ti) (hf : X.fn x = true ∨ X.env.scope.names.lookup x = some .local := by first | exact .inl rfl | exact .inr rfl | assumption) :
    PS X (.AugAssign (.Name x pos') op e pos) (tAug i te ti) := by
  intro pins s σ H D I h
  obtain ⟨v, e1, h⟩ := h
  obtain ⟨m, hn, hl⟩ := I.loc
  have vis : Vis X.env.scope x := by rcases hx with k | k; exact .inl k; exact .inr (.inl k)
  obtain ⟨u, r, l⟩ := hl i x v hi e1 vis
  refine wpAny_AugAssign_Name ?_
  have go : wpAny (model X.prog X.w) X.A (eval e X.env) (fun w s₂ => wpAny (model X.prog X.w) X.A (inplaceOp op u w) (fun r s₃ => wpAny (model X.prog X.w) X.A (storeName X.env x r) (fun _ => SP X pins D .next) X.xe s₃) X.xe s₂) X.xe s := by
    refine thn (he pins s σ H _ I h) fun w s1 ⟨y, H1, I1, r1, q1⟩ => ?_
    refine thn (ho pins s1 σ H1 v y u w _ I1 r r1 q1) fun z s2 ⟨zv, H2, I2, r2, q2⟩ => ?_
    exact store_ok I2 hN hi hx r2 (fun s3 I3 => ⟨_, H2, I3, q2⟩) hf
  rcases l with ⟨hk, hm⟩ | ⟨hk, c, hc, hcell⟩
  · exact wpAny_loadName_local I.ok.kind hk hn hm go
  · rcases hk with hk | hk
    · exact wpAny_loadName_cell I.ok.kind hk hc hcell go
    · rcases hx with k | k
      · have : X.env.scope.names.lookup x = some .free := hk
        rw [k] at this; cases this
      · have : X.env.scope.names.lookup x = some .free := hk
        rw [k] at this; cases this
/-- ints -/
def ipI (f : Int → Int → Int) : TIp := fun x y H Q => ∃ i j, x = .int i ∧ y = .int j ∧ Q (.int (f i j)) H
theorem ip_add : PIp X .Add (ipI fun i j => i + j) := by
  intro pins s σ H x y v u Q I r1 r2 h
  obtain ⟨i, j, e1, e2, q⟩ := h
  subst e1; subst e2
  obtain ⟨t, rfl⟩ := r1
  obtain ⟨t', rfl⟩ := r2
  exact iadd_int ⟨.int _, H, I.tok _, ⟨_, rfl⟩, q⟩
end

/-! ### while -/
section
variable {X : Cx} {pos : Pos}
end

/-! ### what a loop or a comprehension walks -/
/-- at turn i: it yields x (the heap may grow), or it stops -/
structure It where
  go : Nat → Hp → Prop
  yld : Nat → Hp → V → Hp → Prop
  stop : Nat → Hp → Prop
/-- the iterator's own objects may turn: they are not the frame's, not pinned, younger than the entry (or a comprehension's own) -/
def FpOk (X : Cx) (pins : List (Addr × Obj)) (H : Hp) (b : Addr) : Prop :=
  H b = none ∧ b ≠ X.env.locals ∧ b ∉ X.fs ∧ (b ∈ X.ex ∨ X.s₀.heap.objs.size ≤ b) ∧ (∀ x c, X.env.cells.lookup x = some c → c ≠ b) ∧ ∀ p ∈ X.pn ++ pins, p.1 ≠ b
theorem Inv.fpOk {X : Cx} {pins : List (Addr × Obj)} {σ : St} {H H' : Hp} {s : Shared} {b : Addr} (I : Inv X pins σ H s) (hb : s.heap.objs.size ≤ b) (hn : H' b = none) : FpOk X pins H' b := by
  refine ⟨hn, Nat.ne_of_gt (Nat.lt_of_lt_of_le I.lt hb), I.nofs hb, .inr (Nat.le_trans I.sz hb), fun x c e z => ?_, fun p hp z => ?_⟩
  · obtain ⟨v, q⟩ := I.cell x c e
    exact absurd (Nat.lt_of_lt_of_le q.lt (by rw [z]; exact hb)) (Nat.lt_irrefl _)
  · exact absurd (Nat.lt_of_lt_of_le (Heap.lt_size (I.pin p hp).1) (by rw [z]; exact hb)) (Nat.lt_irrefl _)
structure Turn (P : Program) (w : World) (K : PySem.W.Frag) (tg : Expr) (J : It) (fp : List Addr) (it : Addr) (tn : Nat → Heap → Prop) : Prop where
  mem : it ∈ fp
  obj : ∀ i h, tn i h → ∀ b ∈ fp, ∃ o, h.get? b = some o ∧ ∀ v, o.data ≠ .cell v
  keep : ∀ i h h', tn i h → (∀ b ∈ fp, ∀ o, h.get? b = some o → h'.get? b = some o) → tn i h'
  item : ∀ (X : Cx), X.prog = P → X.w = w → X.K = K → X.calm = true → ∀ (i : Nat) (pins : List (Addr × Obj)) (s : Shared) (σ : St) (H : Hp) (E : Value → Shared → Prop), Inv X pins σ H s → (∀ b ∈ fp, FpOk X pins H b) → tn i s.heap → J.go i H →
    wpAny (model P w) X.A (pyNext (.ref it)) (fun r s1 => ∃ u, r = some u ∧
      wpAny (model P w) X.A (letOwnedTupleGo tg (.ref it) u) (fun _ s2 => ∃ x H', Inv X pins σ H' s2 ∧ RelV x u ∧ J.yld i H x H' ∧ tn (i + 1) s2.heap ∧ ∀ b ∈ fp, H' b = none) E s1) E s
  done : ∀ (X : Cx), X.prog = P → X.w = w → X.K = K → X.calm = true → ∀ (i : Nat) (pins : List (Addr × Obj)) (s : Shared) (σ : St) (H : Hp) (E : Value → Shared → Prop), Inv X pins σ H s → (∀ b ∈ fp, FpOk X pins H b) → tn i s.heap → J.stop i H →
    wpAny (model P w) X.A (pyNext (.ref it)) (fun r s1 => r = none ∧ Inv X pins σ H s1) E s
  self : ∀ (A : Around) (i : Nat) (s : Shared) (Q : Value → Shared → Prop) (E : Value → Shared → Prop), tn i s.heap → Q (.ref it) s → wpAny (model P w) A (pyIter (.ref it)) Q E s
abbrev TI := St → Hp → (It → Hp → Prop) → Prop
/-- an iterator has come -/
def PIE (X : Cx) (pins : List (Addr × Obj)) (σ : St) (tg : Expr) (R : It → Hp → Prop) (itv : Value) (s2 : Shared) : Prop :=
  ∃ (it : Addr) (fp : List Addr) (tn : Nat → Heap → Prop) (J : It) (H' : Hp), itv = .ref it ∧ Inv X pins σ H' s2 ∧ Turn X.prog X.w X.K tg J fp it tn ∧ tn 0 s2.heap ∧ (∀ b ∈ fp, FpOk X pins H' b) ∧ R J H'
def PI (X : Cx) (tg iter : Expr) (wi : TI) : Prop :=
  ∀ (pins : List (Addr × Obj)) (s : Shared) (σ : St) (H : Hp) (R : It → Hp → Prop), Inv X pins σ H s → wi σ H R →
    wpAny (model X.prog X.w) X.A (eval iter X.env) (fun v s1 => wpAny (model X.prog X.w) X.A (pyIter v) (PIE X pins σ tg R) X.xe s1) X.xe s

/-- the step ahead of the store is nothing for an iterator that keeps no tuple -/
theorem go_of {M : Model} {A : Around} {E : Value → Shared → Prop} {s : Shared} {tg : Expr} {it : Addr} {u : Value} {o : Obj} {n : String} {vs : Array Value} {Q : Unit → Shared → Prop} (ho : s.heap.get? it = some o) (hc : o.cls = .type n) (hd : o.data = .fields vs)
    (hn : ["enumerate", "zip", "dict_itemiterator", "dict_reverseitemiterator", "odict_iterator", "itertools.zip_longest", "itertools.pairwise"].contains n = false) (hQ : Q () s) : wpAny M A (letOwnedTupleGo tg (.ref it) u) Q E s := by
  unfold letOwnedTupleGo
  cases tg <;> first
    | exact wpAny_pure hQ
    | (cases u <;> first
        | exact wpAny_pure hQ
        | (refine wpAny_bind (wpAny_load ho ?_)
           rw [hc, hd]
           show wpAny M A (if (["enumerate", "zip", "dict_itemiterator", "dict_reverseitemiterator", "odict_iterator", "itertools.zip_longest", "itertools.pairwise"].contains n && vs[0]? == some (rawInt _)) = true then _ else _) Q E s
           rw [if_neg (by intro h; rw [hn, Bool.false_and] at h; cases h)]
           exact wpAny_pure hQ))

/-- the list at a, as it stands at each turn (a loop may append to it) -/
def Itl (K : PySem.W.Frag) (a : Addr) : It :=
  ⟨fun i H => ∃ xs x, SqL K H a xs ∧ xs[i]? = some x, fun i H x H' => H' = H ∧ ∀ xs, SqL K H a xs → xs[i]? = some x, fun i H => ∃ xs, SqL K H a xs ∧ xs.length ≤ i⟩
def Itt (K : PySem.W.Frag) (a : Addr) : It :=
  ⟨fun i H => ∃ xs x, SqT K H a xs ∧ xs[i]? = some x, fun i H x H' => H' = H ∧ ∀ xs, SqT K H a xs → xs[i]? = some x, fun i H => ∃ xs, SqT K H a xs ∧ xs.length ≤ i⟩
/-- lo, lo + 1, .. (n of them) -/
def Itr (lo : Int) (n : Nat) : It := ⟨fun i _ => i < n, fun i H x H' => H' = H ∧ x = .int (lo + i), fun i _ => n ≤ i⟩
theorem turn_list {P : Program} {w : World} {K : PySem.W.Frag} {tg : Expr} (a it : Addr) : Turn P w K tg (Itl K a) [it] it (fun i h => h.IsListIter it a i) where
  mem := by simp
  obj := fun i h st b hb => by
    have e : b = it := by simpa using hb
    subst e
    obtain ⟨o, e, c, d⟩ := st
    exact ⟨o, e, fun v z => by rw [d] at z; cases z⟩
  keep := fun i h h' st k => st.at fun o e => k it (by simp) o e
  item := by
    intro X hP hw hK hc i pins s σ H E I hf st hg
    subst hP hw hK
    obtain ⟨xs, x, hq, hx⟩ := hg
    obtain ⟨its, rv, p, hz⟩ := I.list hq
    obtain ⟨u, hu, ru⟩ := rv.get hx
    obtain ⟨f0, f1, f2, f3, f4, f5⟩ := hf it (by simp)
    refine wpAny_pyNext_list_item st p.isList (x := u) (by simpa using hu) fun h' st' sb => ?_
    have I1 : Inv X pins σ H { s with heap := h' } := I.turned (t' := s.toks) (fun b o hb e => (sb.2 b hb).trans e) f0 f1 f3 f4 f5
    obtain ⟨o, e, c, d⟩ := id st'
    exact ⟨u, rfl, go_of (s := { s with heap := h' }) e c d (by decide) ⟨x, H, I1, ru, ⟨rfl, fun ys hy => by rw [I.list_inj hy hq]; exact hx⟩, st', fun b hb => (hf b hb).1⟩⟩
  done := by
    intro X hP hw hK hc i pins s σ H E I hf st hg
    subst hP hw hK
    obtain ⟨xs, hq, hx⟩ := hg
    obtain ⟨its, rv, p, hz⟩ := I.list hq
    obtain ⟨f0, f1, f2, f3, f4, f5⟩ := hf it (by simp)
    have hl := rv.length
    exact wpAny_pyNext_list_end (I.ok.hd hc) st p.isList (by simp; omega) fun h' eb => ⟨rfl, I.turned (t' := s.toks) (fun b o hb e => eb b o hb e) f0 f1 f3 f4 f5⟩
  self := fun _ _ _ _ _ st h => wpAny_pyIter_listiter st h
theorem turn_tuple {P : Program} {w : World} {K : PySem.W.Frag} {tg : Expr} (a it : Addr) : Turn P w K tg (Itt K a) [it] it (fun i h => h.IsTupleIter it a i) where
  mem := by simp
  obj := fun i h st b hb => by
    have e : b = it := by simpa using hb
    subst e
    obtain ⟨o, e, c, d⟩ := st
    exact ⟨o, e, fun v z => by rw [d] at z; cases z⟩
  keep := fun i h h' st k => st.at fun o e => k it (by simp) o e
  item := by
    intro X hP hw hK hc i pins s σ H E I hf st hg
    subst hP hw hK
    obtain ⟨xs, x, hq, hx⟩ := hg
    obtain ⟨its, rv, p, hz⟩ := I.tuple hq
    obtain ⟨u, hu, ru⟩ := rv.get hx
    obtain ⟨f0, f1, f2, f3, f4, f5⟩ := hf it (by simp)
    refine wpAny_pyNext_tuple_item st (show s.heap.IsTuple a its.toArray from p) (x := u) (by simpa using hu) fun h' st' sb => ?_
    have I1 : Inv X pins σ H { s with heap := h' } := I.turned (t' := s.toks) (fun b o hb e => (sb.2 b hb).trans e) f0 f1 f3 f4 f5
    obtain ⟨o, e, c, d⟩ := id st'
    exact ⟨u, rfl, go_of (s := { s with heap := h' }) e c d (by decide) ⟨x, H, I1, ru, ⟨rfl, fun ys hy => by rw [I.tuple_inj hy hq]; exact hx⟩, st', fun b hb => (hf b hb).1⟩⟩
  done := by
    intro X hP hw hK hc i pins s σ H E I hf st hg
    subst hP hw hK
    obtain ⟨xs, hq, hx⟩ := hg
    obtain ⟨its, rv, p, hz⟩ := I.tuple hq
    obtain ⟨f0, f1, f2, f3, f4, f5⟩ := hf it (by simp)
    have hl := rv.length
    exact wpAny_pyNext_tuple_end (I.ok.hd hc) st (show s.heap.IsTuple a its.toArray from p) (by simp; omega) fun h' eb => ⟨rfl, I.turned (t' := s.toks) (fun b o hb e => eb b o hb e) f0 f1 f3 f4 f5⟩
  self := fun _ _ _ _ _ st h => wpAny_pyIter_tupleiter st h
theorem turn_range {P : Program} {w : World} {K : PySem.W.Frag} {tg : Expr} (it : Addr) (lo : Int) (n : Nat) : Turn P w K tg (Itr lo n) [it] it (fun i h => IsRangeIter h it (lo + (i : Nat) * 1) ((n : Int) - (i : Nat)) 1) where
  mem := by simp
  obj := fun i h st b hb => by
    have e : b = it := by simpa using hb
    subst e
    exact ⟨_, st, fun v z => by
      have z' : Data.fields _ = Data.cell v := z
      cases z'⟩
  keep := fun i h h' st k => k it (by simp) _ st
  item := by
    intro X hP hw hK hc i pins s σ H E I hf st hg
    subst hP hw hK
    obtain ⟨f0, f1, f2, f3, f4, f5⟩ := hf it (by simp)
    have W := Walks.range (prog := X.prog) (w := X.w) (I.ok.hd hc) it lo 1 n
    refine W.item i s _ _ hg st fun v h' tk hv st' kk => ?_
    obtain ⟨t, rfl⟩ := hv
    have I1 : Inv X pins σ H { s with heap := h', toks := tk } := I.turned (fun b o hb e => kk b o (by simpa using hb) e) f0 f1 f3 f4 f5
    refine ⟨_, rfl, go_of (s := { s with heap := h', toks := tk }) (n := "range_iterator") st' rfl rfl (by decide) ⟨.int (lo + i), H, I1, ⟨t, ?_⟩, ⟨rfl, rfl⟩, st', fun b hb => (hf b hb).1⟩⟩
    rw [Int.mul_one]
  done := by
    intro X hP hw hK hc i pins s σ H E I hf st hg
    subst hP hw hK
    obtain ⟨f0, f1, f2, f3, f4, f5⟩ := hf it (by simp)
    exact wpAny_pyNext_range_end (I.ok.hd hc) st (by have : n ≤ i := hg; omega) fun h' eb => ⟨rfl, I.turned (t' := s.toks) (fun b o hb e => eb b o hb e) f0 f1 f3 f4 f5⟩
  self := fun _ _ _ _ _ st h => wpAny_pyIter_rangeiter st h
end L2

namespace L2
open PySem PySem.Spec PyProof.Rows
section
variable {X : Cx} {tg : Expr}
/-- a range object just made, walked -/
theorem range_it {pins : List (Addr × Obj)} {σ : St} {H : Hp} {s : Shared} {R : It → Hp → Prop} {E : Value → Shared → Prop} {lo hi : Int} {t u v : Tok} {tk : Nat} (I : Inv X pins σ H s) (h1 : -(2 ^ 62) ≤ lo) (h2 : lo < 2 ^ 62) (h3 : -(2 ^ 62) ≤ hi) (h4 : hi < 2 ^ 62)
    (q : R (Itr lo (hi - lo).toNat) H) : wpAny (model X.prog X.w) X.A (pyIter (.ref s.heap.objs.size)) (PIE X pins σ tg R) E { s with heap := s.heap.push { cls := .type "range", data := .fields #[.int lo t, .int hi u, .int 1 v] }, toks := tk } := by
  refine wpAny_pyIter_range (IsRange.new ..) (small_one h1 h2 h3 h4) ?_
  have I1 : Inv X pins σ H { s with heap := s.heap.push { cls := .type "range", data := .fields #[.int lo t, .int hi u, .int 1 v] }, toks := tk } := I.kept fun b o e => Heap.get?_push_of_some _ e
  refine ⟨(s.heap.push { cls := .type "range", data := .fields #[.int lo t, .int hi u, .int 1 v] }).objs.size, [(s.heap.push { cls := .type "range", data := .fields #[.int lo t, .int hi u, .int 1 v] }).objs.size], _, _, H, rfl,
    I1.kept (t' := tk) fun b o e => Heap.get?_push_of_some _ e, turn_range _ lo (hi - lo).toNat, ?_, fun b hb => ?_, q⟩
  · have e1 : lo + ((0 : Nat) : Int) * 1 = lo := by simp
    have e2 : (((hi - lo).toNat : Nat) : Int) - ((0 : Nat) : Int) = Builtin.Range.rangeSize lo hi 1 := by rw [rangeSize_one]; split <;> omega
    show IsRangeIter _ _ (lo + ((0 : Nat) : Int) * 1) ((((hi - lo).toNat : Nat) : Int) - ((0 : Nat) : Int)) 1
    rw [e1, e2]
    exact Heap.get?_push_size _ rfl
  · have e : b = (s.heap.push { cls := .type "range", data := .fields #[.int lo t, .int hi u, .int 1 v] }).objs.size := by simpa using hb
    subst e
    exact I1.fpOk (Nat.le_refl _) (I1.hok.fresh (Nat.le_refl _))
def iRng1 (ta : TA) : TI := fun σ H R => ta σ H fun vs H1 => ∃ j : Int, vs = [.int j] ∧ -(2 ^ 62) ≤ j ∧ j < 2 ^ 62 ∧ R (Itr 0 j.toNat) H1
theorem pi_range1 {a : Expr} {ta : TA} {p pos : Pos} (hg : Gl X "range") (hm : X.mg "range" = none) (ha : PA X [a] ta) (hs : starEach [a] X.env = [(false, eval a X.env)] := by rfl) : PI X tg (.Call (.Name "range" p) [a] [] pos) (iRng1 ta) := by
  intro pins s σ H R I h
  refine Call_ (ld_blt I hg hm boot_range (PyProof.Rows.callWith_type1 (thn (ha pos pins s σ H _ I h) fun us s1 ⟨vs, H1, I1, r1, q1⟩ => ?_) hs rfl))
  obtain ⟨j, e, q1, q2, q⟩ := q1
  subst e
  cases r1 with
  | cons r rr =>
    cases rr
    obtain ⟨t, rfl⟩ := r
    exact call_range_1 (range_it I1 (by omega) (by omega) q1 q2 (by simpa using q))

/-! ### for -/
/-- W: the invariant by the turn and a measure; N: what the body is to reach -/
def tFor (wi : TI) (g : TG) (tb : TS) : TS := fun D σ H => wi σ H fun J H1 => ∃ W : Nat → Nat → St → Hp → Prop, (∃ m, W 0 m σ H1) ∧ ∀ i m σ H, W i m σ H →
  (J.stop i H ∧ D.nx σ H) ∨ (J.go i H ∧ ∃ N : St → Hp → Prop, (∀ σ' H', N σ' H' → ∃ m', m' < m ∧ W (i + 1) m' σ' H') ∧ ∀ x H', J.yld i H x H' → g x σ H' fun σ2 H2 => tb { D with nx := N, ct := N, bk := D.nx } σ2 H2)
/-- the records at fp as they stand -/
def pinsAt (fp : List Addr) (h : Heap) : List (Addr × Obj) := fp.filterMap fun b => (h.get? b).map fun o => (b, o)
theorem mem_pinsAt {fp : List Addr} {h : Heap} {b : Addr} {o : Obj} (hb : b ∈ fp) (e : h.get? b = some o) : (b, o) ∈ pinsAt fp h := List.mem_filterMap.mpr ⟨b, hb, by rw [e]; rfl⟩
theorem of_pinsAt {fp : List Addr} {h : Heap} {p : Addr × Obj} (hp : p ∈ pinsAt fp h) : p.1 ∈ fp ∧ h.get? p.1 = some p.2 := by
  obtain ⟨b, hb, e⟩ := List.mem_filterMap.mp hp
  cases q : h.get? b with
  | none => rw [q] at e; cases e
  | some o =>
    rw [q] at e
    have e' : (b, o) = p := Option.some.inj e
    subst e'
    exact ⟨hb, q⟩
theorem Inv.pinned {pins : List (Addr × Obj)} {σ : St} {H : Hp} {s : Shared} {fp : List Addr} (I : Inv X pins σ H s) (hf : ∀ b ∈ fp, FpOk X pins H b) (ho : ∀ b ∈ fp, ∃ o, s.heap.get? b = some o ∧ ∀ v, o.data ≠ .cell v) : Inv X (pins ++ pinsAt fp s.heap) σ H s :=
  I.pins_of fun p hp => (List.mem_append.mp hp).elim (fun z => I.pin p (List.mem_append_right _ z)) fun z => by
    obtain ⟨hb, e⟩ := of_pinsAt z
    obtain ⟨f0, f1, f2, _⟩ := hf p.1 hb
    obtain ⟨o, e', d⟩ := ho p.1 hb
    rw [e] at e'; cases e'
    exact ⟨e, f0, f1, f2, d⟩
theorem Inv.unpinned {pins pl : List (Addr × Obj)} {σ : St} {H : Hp} {s : Shared} (I : Inv X (pins ++ pl) σ H s) : Inv X pins σ H s := I.pins_of fun p hp => I.pin p (List.mem_append_right _ (List.mem_append_left _ hp))
theorem ps_for {iter : Expr} {body : List Stmt} {wi : TI} {g : TG} {tb : TS} {pos : Pos} (hp : PassesOwn (model X.prog X.w) X.A X.env X.xe) (hc : X.calm = true) (hi : PI X tg iter wi) (hg : PG X tg g) (hb : PSs X body tb)
    (hs : ∀ x, foldedSetIterable iter X.env x = pure x := by intro _; rfl) : PS X (.For tg iter body [] pos) (tFor wi g tb) := by
  intro pins s σ H D I h
  refine wpAny_For (thn (hi pins s σ H _ I h) fun v s1 h1 => thn h1 fun itv s2 h2 => ?_) hs
  obtain ⟨it, fp, tn, J, H2, e, I2, T, st2, f2, W, ⟨m0, w0⟩, turn⟩ := h2
  subst e
  -- what stays true of the iterator's objects through the loop
  have stat : ∀ {H' : Hp}, (∀ b ∈ fp, H' b = none) → ∀ b ∈ fp, FpOk X pins H' b := fun hn b hb => ⟨hn b hb, (f2 b hb).2⟩
  refine codeAny_forLoop_any (fun n s' => ∃ i σ' H', Inv X pins σ' H' s' ∧ tn i s'.heap ∧ (∀ b ∈ fp, H' b = none) ∧ W i n σ' H') ?_ m0 ⟨0, σ, H2, I2, st2, fun b hb => (f2 b hb).1, w0⟩
  rintro n s3 ⟨i, σ3, H3, I3, st3, fr3, w3⟩
  rcases turn i n σ3 H3 w3 with ⟨stop, qn⟩ | ⟨go, N, hN, step⟩
  · refine wpAny_passesOwn hp (thn (T.done X rfl rfl rfl hc i pins s3 σ3 H3 X.xe I3 (stat fr3) st3 stop) fun r s4 ⟨hr, I4⟩ => ?_)
    subst hr
    exact wpAny_execs_nil ⟨σ3, H3, I4, qn⟩
  · refine wpAny_passesOwn hp (thn (T.item X rfl rfl rfl hc i pins s3 σ3 H3 X.xe I3 (stat fr3) st3 go) fun r s4 ⟨u, hr, h4⟩ => ?_)
    subst hr
    refine wpAny_passesOwn hp (thn h4 fun _ s5 ⟨x, H5, I5, r5, y5, st5, fr5⟩ => ?_)
    have I5' := I5.pinned (stat fr5) (T.obj _ _ st5)
    refine wpAny_passesOwn hp (thn (hg _ s5 σ3 H5 x u _ I5' r5 (step x H5 y5)) fun _ s6 ⟨σ6, H6, I6, q6⟩ => ?_)
    refine wpAny_passesOwn hp (thn (hb _ s6 σ6 H6 _ I6 q6) fun f s7 q7 => ?_)
    have again : ∀ {σ7 : St} {H7 : Hp}, Inv X (pins ++ pinsAt fp s5.heap) σ7 H7 s7 → N σ7 H7 → ∃ m, m < n ∧ ∃ i σ' H', Inv X pins σ' H' s7 ∧ tn i s7.heap ∧ (∀ b ∈ fp, H' b = none) ∧ W i m σ' H' := fun {σ7 H7} I7 n7 => by
      obtain ⟨m', hm, w7⟩ := hN σ7 H7 n7
      refine ⟨m', hm, i + 1, σ7, H7, I7.unpinned, T.keep _ _ _ st5 fun b hb o e => (I7.pin (b, o) (List.mem_append_right _ (List.mem_append_right _ (mem_pinsAt hb e)))).1, fun b hb => ?_, w7⟩
      obtain ⟨o, e, d⟩ := T.obj _ _ st5 b hb
      exact (I7.pin (b, o) (List.mem_append_right _ (List.mem_append_right _ (mem_pinsAt hb e)))).2.1
    cases f with
    | next => obtain ⟨σ7, H7, I7, n7⟩ := q7; exact again I7 n7
    | cont => obtain ⟨σ7, H7, I7, n7⟩ := q7; exact again I7 n7
    | brk => obtain ⟨σ7, H7, I7, q7⟩ := q7; exact ⟨σ7, H7, I7.unpinned, q7⟩
    | ret v => obtain ⟨x7, σ7, H7, I7, r7, q7⟩ := q7; exact ⟨x7, σ7, H7, I7.unpinned, r7, q7⟩
end

/-! ### the forms one uses -/
end L2

namespace L2
open PySem PySem.Spec PyProof.Rows

abbrev R2 := V → V → Hp → VK → Prop
/-- a two-place operation on values: f is binaryOp op, inplaceOp op or compareOp op -/
def OpR (X : Cx) (f : Value → Value → Sem Value) (r : R2) : Prop :=
  ∀ (pins : List (Addr × Obj)) (s : Shared) (σ : St) (H : Hp) (x y : V) (v u : Value) (Q : VK), Inv X pins σ H s → RelV x v → RelV y u → r x y H Q →
    wpAny (model X.prog X.w) X.A (f v u) (EP X pins σ Q) X.xe s
/-- a one-place operation -/
def UnR (X : Cx) (f : Value → Sem Value) (r : V → Hp → VK → Prop) : Prop :=
  ∀ (pins : List (Addr × Obj)) (s : Shared) (σ : St) (H : Hp) (x : V) (v : Value) (Q : VK), Inv X pins σ H s → RelV x v → r x H Q →
    wpAny (model X.prog X.w) X.A (f v) (EP X pins σ Q) X.xe s
/-- a call of a value that is known (a builtin, a type) with values -/
def CallR (X : Cx) (f : Value) (r : List V → Hp → VK → Prop) : Prop :=
  ∀ (pins : List (Addr × Obj)) (s : Shared) (σ : St) (H : Hp) (xs : List V) (us : List Value) (Q : VK), Inv X pins σ H s → Vals xs us → r xs H Q →
    wpAny (model X.prog X.w) X.A (call f us) (EP X pins σ Q) X.xe s

def tOp (r : R2) (ta tb : TE) : TE := fun σ H Q => ta σ H fun x H1 => tb σ H1 fun y H2 => r x y H2 Q
def tUn (r : V → Hp → VK → Prop) (ta : TE) : TE := fun σ H Q => ta σ H fun x H1 => r x H1 Q
/-- ints in, under C, and a value out -/
def rI (C : Int → Int → Prop) (g : Int → Int → V) : R2 := fun x y H Q => ∃ i j, x = .int i ∧ y = .int j ∧ C i j ∧ Q (g i j) H
def rI0 (g : Int → Int → V) : R2 := fun x y H Q => ∃ i j, x = .int i ∧ y = .int j ∧ Q (g i j) H
def rU (g : Int → V) : V → Hp → VK → Prop := fun x H Q => ∃ i, x = .int i ∧ Q (g i) H

section
variable {X : Cx} {a b c : Expr} {ta tb tc : TE} {pos : Pos}

theorem binT (ha : PE X a ta) (hb : PE X b tb) {pins : List (Addr × Obj)} {s : Shared} {σ : St} {H : Hp} {R : V → V → Hp → Prop} (I : Inv X pins σ H s)
    (h : ta σ H fun x H1 => tb σ H1 fun y H2 => R x y H2) {Q : Value → Shared → Prop} {f : Value → Value → Sem Value}
    (hf : ∀ v u s2 x y H2, Inv X pins σ H2 s2 → RelV x v → RelV y u → R x y H2 → wpAny (model X.prog X.w) X.A (f v u) Q X.xe s2) :
    wpAny (model X.prog X.w) X.A (eval a X.env) (fun v s₁ => wpAny (model X.prog X.w) X.A (eval b X.env) (fun u s₂ => wpAny (model X.prog X.w) X.A (f v u) Q X.xe s₂) X.xe s₁) X.xe s := by
  refine thn (ha pins s σ H _ I h) fun v s1 ⟨x, H1, I1, r1, q1⟩ => ?_
  refine thn (hb pins s1 σ H1 _ I1 q1) fun u s2 ⟨y, H2, I2, r2, q2⟩ => ?_
  exact hf v u s2 x y H2 I2 r1 r2 q2

theorem pe_op {op : Operator} {r : R2} (ho : OpR X (binaryOp op) r) (ha : PE X a ta) (hb : PE X b tb) : PE X (.BinOp a op b pos) (tOp r ta tb) := by
  intro pins s σ H Q I h
  exact wpAny_BinOp (binT ha hb I h fun v u s2 x y H2 I2 rx ry q => ho pins s2 σ H2 x y v u Q I2 rx ry q)
theorem pe_un {op : UnaryOp} {r : V → Hp → VK → Prop} (ho : UnR X (unaryOp op) r) (ha : PE X a ta) : PE X (.UnaryOp op a pos) (tUn r ta) := by
  intro pins s σ H Q I h
  exact UnaryOp_ (thn (ha pins s σ H _ I h) fun v s1 ⟨x, H1, I1, r1, q1⟩ => ho pins s1 σ H1 x v Q I1 r1 q1)

/-! ### ints -/
theorem opI {f : Value → Value → Sem Value} {C : Int → Int → Prop} {g : Int → Int → Int}
    (rule : ∀ (i j : Int) (t u : Tok) (s : Shared) (Q : Value → Shared → Prop) (E : Value → Shared → Prop), C i j → Q (.int (g i j) s.toks) { s with toks := s.toks + 1 } → wpAny (model X.prog X.w) X.A (f (.int i t) (.int j u)) Q E s) :
    OpR X f (rI C fun i j => .int (g i j)) := by
  intro pins s σ H x y v u Q I rx ry h
  obtain ⟨i, j, rfl, rfl, hc, q⟩ := h
  obtain ⟨t, rfl⟩ := rx
  obtain ⟨t', rfl⟩ := ry
  exact rule i j t t' s _ _ hc ⟨.int (g i j), H, I.tok _, ⟨_, rfl⟩, q⟩
theorem opI0 {f : Value → Value → Sem Value} {g : Int → Int → Int}
    (rule : ∀ (i j : Int) (t u : Tok) (s : Shared) (Q : Value → Shared → Prop) (E : Value → Shared → Prop), Q (.int (g i j) s.toks) { s with toks := s.toks + 1 } → wpAny (model X.prog X.w) X.A (f (.int i t) (.int j u)) Q E s) :
    OpR X f (rI0 fun i j => .int (g i j)) := by
  intro pins s σ H x y v u Q I rx ry h
  obtain ⟨i, j, rfl, rfl, q⟩ := h
  obtain ⟨t, rfl⟩ := rx
  obtain ⟨t', rfl⟩ := ry
  exact rule i j t t' s _ _ ⟨.int (g i j), H, I.tok _, ⟨_, rfl⟩, q⟩
theorem opB0 {f : Value → Value → Sem Value} {g : Int → Int → Bool}
    (rule : ∀ (i j : Int) (t u : Tok) (s : Shared) (Q : Value → Shared → Prop) (E : Value → Shared → Prop), Q (.bool (g i j)) s → wpAny (model X.prog X.w) X.A (f (.int i t) (.int j u)) Q E s) :
    OpR X f (rI0 fun i j => .bl (g i j)) := by
  intro pins s σ H x y v u Q I rx ry h
  obtain ⟨i, j, rfl, rfl, q⟩ := h
  obtain ⟨t, rfl⟩ := rx
  obtain ⟨t', rfl⟩ := ry
  exact rule i j t t' s _ _ ⟨.bl (g i j), H, I, rfl, q⟩

def CDiv (i j : Int) : Prop := 0 < j ∧ j < 1073741824
def CPow (i j : Int) : Prop := 0 ≤ j ∧ j ≤ 1000000 ∧ i.natAbs < 2 ^ 64
def CMul (i j : Int) : Prop := (-(2 ^ 64) < i ∧ i < 2 ^ 64) ∨ (-(2 ^ 64) < j ∧ j < 2 ^ 64)
theorem CMul.ok {i j : Int} (h : CMul i j) : IntMulOk i j := by
  rcases h with ⟨h1, h2⟩ | ⟨h1, h2⟩
  · exact .of_left (intBits_le_64 h1 h2)
  · exact .of_right (intBits_le_64 h1 h2)

theorem op_add : OpR X (binaryOp .Add) (rI0 fun i j => .int (i + j)) := opI0 fun _ _ _ _ _ _ _ q => add_int q
theorem op_sub : OpR X (binaryOp .Sub) (rI0 fun i j => .int (i - j)) := opI0 fun _ _ _ _ _ _ _ q => sub_int q
theorem op_mul : OpR X (binaryOp .Mult) (rI CMul fun i j => .int (i * j)) := opI fun _ _ _ _ _ _ _ hc q => mul_int q hc.ok
/-- // by a positive divisor -/
theorem op_fdiv : OpR X (binaryOp .FloorDiv) (rI CDiv fun i j => .int (i / j)) := opI fun i j _ _ _ _ _ hc q => by
  have h1 : (0 : Int) < j := hc.1
  have h2 : j < 1073741824 := hc.2
  exact floordiv_int (by omega) (by rw [Int.fdiv_eq_ediv_of_nonneg i (by omega)]; exact q) (.inl (PyProof.noPylong_small (by omega)))
/-- % by a positive divisor of any size -/
theorem op_mod : OpR X (binaryOp .Mod) (rI (fun _ j => 0 < j) fun i j => .int (i % j)) := opI fun i j _ _ _ _ _ hc q => by
  have h1 : (0 : Int) < j := hc
  exact mod_int' (by omega) (by rw [Int.fmod_eq_emod_of_nonneg i (by omega)]; exact q)
theorem op_pow : OpR X (binaryOp .Pow) (rI CPow fun i j => .int (i ^ j.toNat)) := opI fun _ _ _ _ _ _ _ hc q => pow_int_small hc.1 hc.2.1 hc.2.2 q


theorem unI {f : Value → Sem Value} {g : Int → Int}
    (rule : ∀ (i : Int) (t : Tok) (s : Shared) (Q : Value → Shared → Prop) (E : Value → Shared → Prop), Q (.int (g i) s.toks) { s with toks := s.toks + 1 } → wpAny (model X.prog X.w) X.A (f (.int i t)) Q E s) :
    UnR X f (rU fun i => .int (g i)) := by
  intro pins s σ H x v Q I rx h
  obtain ⟨i, rfl, q⟩ := h
  obtain ⟨t, rfl⟩ := rx
  exact rule i t s _ _ ⟨.int (g i), H, I.tok _, ⟨_, rfl⟩, q⟩
theorem un_neg : UnR X (unaryOp .USub) (rU fun i => .int (-i)) := unI fun _ _ _ _ _ q => neg_int q

/-! ### bools among ints: n += (a < b) -/
end

/-! ### comparisons -/


section
variable {X : Cx} {a b c : Expr} {ta tb tc : TE} {pos : Pos}
theorem fin_bl {pins : List (Addr × Obj)} {σ : St} {H : Hp} {s : Shared} {Q : VK} {k k' : Bool} (I : Inv X pins σ H s) (q : Q (.bl k) H) (e : k = k') : EP X pins σ Q (.bool k') s := by
  subst e
  exact ⟨.bl k, H, I, rfl, q⟩

theorem op_lt : OpR X (compareOp .Lt) (rI0 fun i j => .bl (decide (i < j))) := opB0 fun _ _ _ _ _ _ _ q => lt_int q
theorem op_le : OpR X (compareOp .LtE) (rI0 fun i j => .bl (decide (i ≤ j))) := opB0 fun _ _ _ _ _ _ _ q => le_int q
theorem op_gt : OpR X (compareOp .Gt) (rI0 fun i j => .bl (decide (j < i))) := opB0 fun _ _ _ _ _ _ _ q => gt_int q

/-- is None, is not None: the right side a value none -/
theorem op_isN : OpR X (compareOp .Is) (fun x y H Q => y = .non ∧ Q (.bl (decide (x = .non))) H) := by
  intro pins s σ H x y v u Q I rx ry h
  obtain ⟨rfl, q⟩ := h
  cases ry
  refine is_none_gen (fin_bl I q ?_)
  cases x <;> first
    | (cases rx; rfl)
    | (obtain ⟨t, rfl⟩ := rx; rfl)


/-- two rules for one operation: by cases -/
theorem OpR.or {f : Value → Value → Sem Value} {r r' : R2} (h : OpR X f r) (h' : OpR X f r') : OpR X f (fun x y H Q => r x y H Q ∨ r' x y H Q) := by
  intro pins s σ H x y v u Q I rx ry q
  rcases q with q | q
  · exact h pins s σ H x y v u Q I rx ry q
  · exact h' pins s σ H x y v u Q I rx ry q

theorem nomark (b : Expr) {op : CmpOp} (h : op ≠ .In := by decide) (h2 : op ≠ .NotIn := by decide) : behindInMarks op b = false := by
  have e1 : (op == CmpOp.In) = false := by cases op <;> first | rfl | exact absurd rfl h
  have e2 : (op == CmpOp.NotIn) = false := by cases op <;> first | rfl | exact absurd rfl h2
  cases b <;> simp [behindInMarks, e1, e2]
/-- a comparison as a value; hm: nomark b, or (for in, not in) by with_unfolding_all rfl -/
theorem pe_cmpR {op : CmpOp} {r : R2} (ho : OpR X (compareOp op) r) (ha : PE X a ta) (hb : PE X b tb) (hm : behindInMarks op b = false) : PE X (.Compare a [op] [b] pos) (tOp r ta tb) := by
  intro pins s σ H Q I h
  exact wpAny_Compare1 (binT ha hb I h fun v u s2 x y H2 I2 rx ry q => ho pins s2 σ H2 x y v u Q I2 rx ry q) hm
/-- a reading of a value as a test -/
def tTest (t : TE) : TT := fun σ H Q => t σ H fun x H' => ∃ k, x = .bl k ∧ Q k H'
theorem pt_cmpR {op : CmpOp} {r : R2} (ho : OpR X (compareOp op) r) (ha : PE X a ta) (hb : PE X b tb) (hm : behindInMarks op b = false) : PT X (.Compare a [op] [b] pos) (tTest (tOp r ta tb)) := by
  intro pins s σ H Q I h
  refine wpAny_isTrue_Compare1 (thn (ha pins s σ H _ I h) fun v s1 ⟨x, H1, I1, r1, q1⟩ => thn (hb pins s1 σ H1 _ I1 q1) fun u s2 ⟨y, H2, I2, r2, q2⟩ =>
    thn (ho pins s2 σ H2 x y v u _ I2 r1 r2 q2) fun c s3 ⟨z, H3, I3, r3, k, e, q3⟩ => ?_) hm
  subst e
  cases r3
  exact wpAny_truthy_bool ⟨H3, I3, q3⟩
/-- a op1 b op2 c -/
def tChain (r r' : R2) (ta tb tc : TE) : TE := fun σ H Q => ta σ H fun x H1 => tb σ H1 fun y H2 => r x y H2 fun z H3 => ∃ k, z = .bl k ∧
  (if k = true then tc σ H3 fun w' H4 => r' y w' H4 Q else Q (.bl false) H3)
theorem pe_chain {op op' : CmpOp} {r r' : R2} (ho : OpR X (compareOp op) r) (ho' : OpR X (compareOp op') r') (ha : PE X a ta) (hb : PE X b tb) (hc : PE X c tc)
    (hm : lastMarks [op, op'] [b, c] = false := by with_unfolding_all rfl) : PE X (.Compare a [op, op'] [b, c] pos) (tChain r r' ta tb tc) := by
  intro pins s σ H Q I h
  refine Compare_chain (thn (ha pins s σ H _ I h) fun v s1 ⟨x, H1, I1, r1, q1⟩ => chain_link (thn (hb pins s1 σ H1 _ I1 q1) fun u s2 ⟨y, H2, I2, r2, q2⟩ =>
    thn (ho pins s2 σ H2 x y v u _ I2 r1 r2 q2) fun d s3 ⟨z, H3, I3, r3, k, e, q3⟩ => ?_)) hm
  subst e
  cases r3
  refine wpAny_truthy_bool ?_
  cases k with
  | false => exact ite_ff ⟨.bl false, H3, I3, rfl, q3⟩
  | true => exact ite_tt (chain_last (thn (hc pins s3 σ H3 _ I3 q3) fun w' s4 ⟨z', H4, I4, r4, q4⟩ => ho' pins s4 σ H4 y z' u w' Q I4 r2 r4 q4))

/-! ### truth -/
theorem line63 : (sizeLine : Nat) < 2 ^ 63 := by rw [sizeLine_eq]; decide

/-! ### strs and bytes -/
theorem op_add_str : OpR X (binaryOp .Add) (fun x y H Q => ∃ i j, x = .str i ∧ y = .str j ∧ i.length + j.length ≤ sizeLine ∧ Q (.str (i ++ j)) H) := by
  intro pins s σ H x y v u Q I rx ry h
  obtain ⟨i, j, rfl, rfl, hz, q⟩ := h
  obtain ⟨t, rfl⟩ := rx
  obtain ⟨t', rfl⟩ := ry
  exact add_str (fun t' tk => ⟨.str (i ++ j), H, I.tok _, ⟨_, rfl⟩, q⟩) hz


/-! ### scalar builtins, by CallR -/
theorem vals1 {x : V} {us : List Value} (r : Vals [x] us) : ∃ u, us = [u] ∧ RelV x u := by
  cases r with
  | cons r1 r2 => cases r2; exact ⟨_, rfl, r1⟩
theorem vals2 {x y : V} {us : List Value} (r : Vals [x, y] us) : ∃ u w', us = [u, w'] ∧ RelV x u ∧ RelV y w' := by
  cases r with
  | cons r1 r2 =>
    cases r2 with
    | cons r3 r4 => cases r4; exact ⟨_, _, rfl, r1, r3⟩
end
end L2

namespace L2
open PySem PySem.Spec PyProof.Rows

/-! ### an instance, its attributes a map -/
structure ObjM (h : Heap) (x dx C : Addr) (mA : Str → Option Value) : Prop where
  obj : h.get? x = some (PySem.W.instObj C dx)
  ns : h.Ns1 dx mA
  ne : dx ≠ x

theorem lookIn_ns {h : Heap} {dx : Addr} {mA : Str → Option Value} (n : h.Ns1 dx mA) : ∃ od, h.get? dx = some od ∧ ∀ name, PySem.W.lookIn name od = some (mA name) := by
  obtain ⟨o, es, ep, ho, hd, hk, _, hm⟩ := n
  refine ⟨o, ho, fun name => ?_⟩
  have e := hm name
  unfold nsFind findBy at e
  rw [← Array.find?_toList] at e
  unfold PySem.W.lookIn
  rw [hd]
  dsimp only
  split
  · rename_i y q
    rw [q] at e
    exact congrArg some e
  · rename_i q
    rw [q] at e
    have a : es.toList.any (·.refKey) = false := by
      rw [List.any_eq_false]
      intro y hy
      obtain ⟨z, t, hkey⟩ := hk y (Array.mem_toList_iff.mp hy)
      simp [DictEntry.refKey, hkey]
    have a' : ¬ es.toList.any (·.refKey) = true := by rw [a]; exact Bool.false_ne_true
    rw [if_neg a']
    exact congrArg some e

theorem ObjM.look {h : Heap} {x dx C : Addr} {mA : Str → Option Value} (I : ObjM h x dx C mA) : ∃ od, PySem.W.InstAt h x (PySem.W.instObj C dx) C (some od) ∧ ∀ name, PySem.W.lookIn name od = some (mA name) :=
  let ⟨od, ho, hl⟩ := lookIn_ns I.ns
  ⟨od, ⟨I.obj, rfl, rfl, ho⟩, hl⟩

section
variable {prog : Program} {w : World} {A : Around} {E : Value → Shared → Prop} {s : Shared} {K : PySem.W.Frag} {x dx C f : Addr} {mA : Str → Option Value} {name : Str} {v : Value}

theorem get_map {expr : Bool} {Q : Value → Shared → Prop} (X : K.In s.heap) (I : ObjM s.heap x dx C mA) (hg : PySem.W.plainGet K C name = true) (hh : PySem.W.hasDictIn K C = true)
    (ha : PySem.W.findIn K (.ref C) name = some none) (hv : mA name = some v) (hv' : PySem.W.handedIn v = true) (h : Q v { s with toks := s.toks + 1 }) :
    wpAny (model prog w) A (getAttr (.ref x) name expr) Q E s := by
  obtain ⟨od, J, hl⟩ := I.look
  exact PySem.W.get_value X J (PySem.W.plainGet_of hg).1 (PySem.W.findObj_own hh ha rfl (by rw [hl, hv])) hv' h


theorem get_meth {pl : Sem Bool} {Q : Value × List Value → Shared → Prop} (X : K.In s.heap) (I : ObjM s.heap x dx C mA) (hg : PySem.W.plainGet K C name = true)
    (hf : PySem.W.findIn K (.ref C) name = some (some (.ref f))) (ht : PySem.W.isFn K (.ref f) = true) (hv : mA name = none) (h : Q (.ref f, [.ref x]) s) :
    wpAny (model prog w) A (getMethod (.ref x) name pl) Q E s := by
  obtain ⟨od, J, hl⟩ := I.look
  exact PySem.W.method_fn X J (PySem.W.plainGet_of hg).1 (PySem.W.plainGet_of hg).2 hf (beq_iff_eq.mp ht) (by show (PySem.W.lookIn name od).map (·.isSome) = some false; rw [hl, hv]; rfl) h

theorem set_map {ns : List Str} {Q : Unit → Shared → Prop} (X : K.In s.heap) (I : ObjM s.heap x dx C mA)
    (hs : PySem.W.findIn K (.ref C) "__setattr__" = some (some (.builtin "object.__setattr__"))) (hp : PySem.W.plainOver K C = true) (ht : PySem.W.takerIn K C name = some none) (hh : PySem.W.hasDictIn K C = true)
    (hw : PySem.Within mA ns) (hsz : ns.length ≤ sizeLine)
    (h : ∀ h', ObjM h' x dx C (fun y => if y = name then some v else mA y) → Heap.SameBut dx s.heap h' → Q () { s with heap := h', toks := s.toks + 2 }) :
    wpAny (model prog w) A (setAttr (.ref x) name v) Q E s := by
  obtain ⟨od, J, hl⟩ := I.look
  refine PySem.W.set_plain X J hs (PySem.W.osa_open (s := { s with toks := s.toks + 1 }) (r := none) X J hp ht fun b => ?_)
  obtain ⟨cd, hc, hd'⟩ := PySem.W.any_some hh
  have hx : s.heap.get? x = some ⟨.ref C, some dx, .plain, #[]⟩ := I.obj
  refine wpAny_bind (wpAny_pure (wpAny_bind (wpAny_bind (wpAny_loadPart hx (wpAny_bind (PySem.W.Looks.here (s := { s with toks := s.toks + 1 }) (PySem.W.looks_clsIn X hc) ?_))))))
  rw [hd']
  refine wpAny_pure (a := some dx) (wpAny_bind (wpAny_pure (wpAny_bind ?_)))
  refine wpAny_nsSet1 (s := { s with toks := s.toks + 1 }) I.ns fun h' hn2 hs2 => ?_
  obtain ⟨oD, esD, epD, hoD, hdD, hcD⟩ := hn2.count (PySem.Within.cons name v hw)
  refine wpAny_bind (wpAny_lookBehind hoD (by rw [hdD]; exact pastItsLine_dict (Nat.le_trans hcD (by rw [List.length_cons]; omega))) ?_)
  exact wpAny_pure (h _ ⟨(hs2.2 _ (Ne.symm I.ne)).trans I.obj, hn2, I.ne⟩ hs2)

/-- C(..): the dict at the heap's end, the instance behind it; then its __init__ -/
theorem make_map {R : Result → Shared → Prop} {vs : List Value} {kw : List (Str × Value)} (X : K.In s.heap) (hm : PySem.W.makesIn K C = true)
    (hi : PySem.W.findIn K (.ref C) "__init__" = some (some (.ref f))) (hf : PySem.W.typeIn K (.ref f) = some (.type "function"))
    (h : codeAny (model prog w) (A.under (.builtin "type.__call__" ⟨.ref C :: vs, kw⟩)) (.call (.ref f) ⟨.ref (s.heap.objs.size + 1) :: vs, kw⟩) (PySem.W.InitBack (s.heap.objs.size + 1) R)
      { s with heap := (s.heap.push PySem.W.emptyDict).push (PySem.W.instObj C s.heap.objs.size) }) :
    codeAny (model prog w) A (.call (.ref C) ⟨vs, kw⟩) R s := by
  obtain ⟨hh, g, d, t, os⟩ := s
  exact PySem.W.make_core (PySem.W.makes_of X hm) (PySem.W.looks_findIn X hi) (fun self => PySem.W.bind_fn X self hf) (.inl rfl) h
end

/-! ### the attributes as a list of pairs -/
def putF (f : Str) (v : V) : List (Str × V) → List (Str × V)
  | [] => [(f, v)]
  | (g, x) :: r => if g = f then (g, v) :: r else (g, x) :: putF f v r
theorem lookup_putF (f g : Str) (v : V) : ∀ fs : List (Str × V), (putF f v fs).lookup g = if g = f then some v else fs.lookup g
  | [] => by
    show List.lookup g [(f, v)] = _
    by_cases h : g = f
    · have hb : (g == f) = true := beq_iff_eq.mpr h
      simp only [List.lookup, hb, if_pos h]
    · have hb : (g == f) = false := beq_eq_false_iff_ne.mpr h
      simp only [List.lookup, hb, if_neg h]
  | (k, x) :: r => by
    have ih := lookup_putF f g v r
    rw [show putF f v ((k, x) :: r) = (if k = f then (k, v) :: r else (k, x) :: putF f v r) from rfl]
    by_cases hk : k = f
    · rw [if_pos hk]
      by_cases h : g = k
      · have hb : (g == k) = true := beq_iff_eq.mpr h
        simp only [List.lookup, hb, if_pos (h.trans hk)]
      · have hb : (g == k) = false := beq_eq_false_iff_ne.mpr h
        simp only [List.lookup, hb, if_neg (fun e : g = f => h (e.trans hk.symm))]
    · rw [if_neg hk]
      by_cases h : g = k
      · have hb : (g == k) = true := beq_iff_eq.mpr h
        simp only [List.lookup, hb, if_neg (fun e : g = f => hk (h.symm.trans e))]
      · have hb : (g == k) = false := beq_eq_false_iff_ne.mpr h
        simp only [List.lookup, hb]
        exact ih
theorem keys_putF (f : Str) (v : V) : ∀ fs : List (Str × V), f ∈ (putF f v fs).map (·.1) ∧ ∀ g, g ∈ fs.map (·.1) → g ∈ (putF f v fs).map (·.1)
  | [] => ⟨by simp [putF], fun g h => by simp at h⟩
  | (k, x) :: r => by
    obtain ⟨i1, i2⟩ := keys_putF f v r
    rw [show putF f v ((k, x) :: r) = (if k = f then (k, v) :: r else (k, x) :: putF f v r) from rfl]
    by_cases hk : k = f
    · rw [if_pos hk]
      subst hk
      exact ⟨by simp, fun g h => by simpa using h⟩
    · rw [if_neg hk]
      refine ⟨?_, fun g h => ?_⟩
      · rw [List.map_cons]
        exact List.mem_cons_of_mem _ i1
      · rw [List.map_cons] at h ⊢
        rcases List.mem_cons.mp h with e | e
        · exact List.mem_cons.mpr (.inl e)
        · exact List.mem_cons_of_mem _ (i2 g e)
theorem length_putF (f : Str) (v : V) : ∀ fs : List (Str × V), (putF f v fs).length ≤ fs.length + 1
  | [] => by simp [putF]
  | (k, x) :: r => by
    have ih := length_putF f v r
    rw [show putF f v ((k, x) :: r) = (if k = f then (k, v) :: r else (k, x) :: putF f v r) from rfl]
    by_cases hk : k = f
    · rw [if_pos hk, List.length_cons, List.length_cons]; omega
    · rw [if_neg hk, List.length_cons, List.length_cons]; omega

theorem RelO.some_of {v : V} {o : Option Value} (r : RelO (some v) o) : ∃ u, o = some u ∧ RelV v u := by
  cases o with
  | none => exact (show False from r).elim
  | some u => exact ⟨u, rfl, r⟩
theorem RelO.none_of {o : Option Value} (r : RelO none o) : o = none := by
  cases o with
  | none => rfl
  | some u => exact (show False from r).elim
theorem handed_of {v : V} {u : Value} (r : RelV v u) : PySem.W.handedIn u = true := by
  cases v with
  | non => cases (show u = Value.none from r); rfl
  | bl b => cases (show u = Value.bool b from r); rfl
  | int i => obtain ⟨t, e⟩ := (show ∃ t, u = Value.int i t from r); cases e; rfl
  | str x => obtain ⟨t, e⟩ := (show ∃ t, u = Value.str x t from r); cases e; rfl
  | byt b => obtain ⟨t, e⟩ := (show ∃ t, u = Value.bytes b t from r); cases e; rfl
  | flt b => obtain ⟨t, e⟩ := (show ∃ t, u = Value.float b t from r); cases e; rfl
  | ref a => cases (show u = Value.ref a from r); rfl
  | ty n => cases (show u = Value.type n from r); rfl

section
variable {P : Program} {w : World} {H H' : Hp} {h h' : Heap} {a C dx : Addr} {fs fs' : List (Str × V)}
theorem ins_get (hok : HOk P w H h) (e : H a = some (.ins C dx fs)) : ∃ mA, ObjM h a dx C mA ∧ (∀ f, RelO (fs.lookup f) (mA f)) ∧ PySem.Within mA (fs.map (·.1)) ∧ fs.length ≤ 1000 ∧ H dx = some (.own a) := by
  obtain ⟨d, z, ne, ob, mA, n, r, q⟩ := (show ObjOk P w H h a (.ins C dx fs) from hok a _ e)
  exact ⟨mA, ⟨ob, n, ne⟩, r, q, z, d⟩
end

/-! ### what of the text a class must have -/
structure Cls (K : PySem.W.Frag) (C : Addr) : Prop where
  pg : PySem.W.plainGet K C Str.empty = true
  hd : PySem.W.hasDictIn K C = true
  po : PySem.W.plainOver K C = true
  sa : PySem.W.findIn K (.ref C) "__setattr__" = some (some (.builtin "object.__setattr__"))
theorem Cls.get {K : PySem.W.Frag} {C : Addr} (c : Cls K C) (f : Str) : PySem.W.plainGet K C f = true := c.pg
/-- no class of it has the name -/
def NoAttr (K : PySem.W.Frag) (C : Addr) (f : Str) : Prop := PySem.W.findIn K (.ref C) f = some none
theorem NoAttr.taker {K : PySem.W.Frag} {C : Addr} {f : Str} (n : NoAttr K C f) : PySem.W.takerIn K C f = some none := by
  unfold PySem.W.takerIn
  rw [show PySem.W.findIn K (.ref C) f = some none from n]
  rfl
/-- a constant of the class -/
structure Con (K : PySem.W.Frag) (C : Addr) (f : Str) (v : V) (u : Value) : Prop where
  at_ : PySem.W.findIn K (.ref C) f = some (some u)
  rel : RelV v u
  get : PySem.W.specialIn K u "__get__" = some none
  cp : PySem.W.copiedNames.contains f = false
/-- a method: a plain def of the class or of one above it -/
structure Meth (K : PySem.W.Frag) (C : Addr) (m : Str) (f : Addr) : Prop where
  at_ : PySem.W.findIn K (.ref C) m = some (some (.ref f))
  fn : PySem.W.isFn K (.ref f) = true
  kp : PySem.W.keepIn K (.ref f) = true

section
variable {X : Cx} {pins : List (Addr × Obj)} {σ : St} {H : Hp} {s : Shared} {a C dx : Addr} {fs : List (Str × V)} {f : Str} {v : V} {A : Around} {E : Value → Shared → Prop}

theorem getattr_ok {b : Bool} {Q : Value → Shared → Prop} (I : Inv X pins σ H s) (e : H a = some (.ins C dx fs)) (c : Cls X.K C) (n : NoAttr X.K C f) (l : fs.lookup f = some v)
    (h : ∀ u s', Inv X pins σ H s' → RelV v u → Q u s') : wpAny (model X.prog X.w) A (getAttr (.ref a) f b) Q E s := by
  obtain ⟨mA, O, r, _, _, _⟩ := ins_get I.hok e
  obtain ⟨u, hu, ru⟩ := RelO.some_of (v := v) (o := mA f) (by rw [← l]; exact r f)
  exact get_map I.kIn O (c.get f) c.hd n hu (handed_of ru) (h u _ (I.tok _) ru)


theorem getmeth_ok {m : Str} {g : Addr} {pl : Sem Bool} {Q : Value × List Value → Shared → Prop} (I : Inv X pins σ H s) (e : H a = some (.ins C dx fs)) (c : Cls X.K C) (k : Meth X.K C m g) (l : fs.lookup m = none)
    (h : Q (.ref g, [.ref a]) s) : wpAny (model X.prog X.w) A (getMethod (.ref a) m pl) Q E s := by
  obtain ⟨mA, O, r, _, _, _⟩ := ins_get I.hok e
  have hn : mA m = none := RelO.none_of (by rw [← l]; exact r m)
  exact get_meth I.kIn O (c.get m) k.at_ k.fn hn h

theorem setattr_ok {y : V} {u : Value} {Q : Unit → Shared → Prop} (I : Inv X pins σ H s) (e : H a = some (.ins C dx fs)) (c : Cls X.K C) (n : NoAttr X.K C f) (hl : fs.length < 1000) (ry : RelV y u)
    (h : ∀ s', Inv X pins σ (upd H a (.ins C dx (putF f y fs))) s' → Q () s') : wpAny (model X.prog X.w) A (setAttr (.ref a) f u) Q E s := by
  obtain ⟨mA, O, r, wi, _, ho⟩ := ins_get I.hok e
  have hz : (fs.map (·.1)).length ≤ sizeLine := by rw [List.length_map, sizeLine_eq]; omega
  refine set_map I.kIn O c.sa c.po n.taker c.hd wi hz fun h' O' sb => h _ ?_
  have hd : ∃ o, h'.get? dx = some o := let ⟨o, _, _, e', _⟩ := O'.ns; ⟨o, e'⟩
  refine I.write (x := a) (e := dx) (by rw [e]; exact True.intro) (.inr ho) (fun b q hb z => (sb.2 b hb).trans z) hd ?_
  refine ⟨by rw [upd_ne O.ne]; exact ho, ?_, O.ne, O'.obj, _, O'.ns, fun g => ?_, fun g hg => ?_⟩
  · have := length_putF f y fs; omega
  · show RelO ((putF f y fs).lookup g) (if g = f then some u else mA g)
    rw [lookup_putF]
    by_cases q : g = f
    · rw [if_pos q, if_pos q]; exact ry
    · rw [if_neg q, if_neg q]; exact r g
  · by_cases q : g = f
    · rw [q]; exact (keys_putF f y fs).1
    · refine (keys_putF f y fs).2 g (wi g fun z => hg ?_)
      show (if g = f then some u else mA g) = none
      rw [if_neg q]; exact z

/-- a new instance, tracked, without attributes -/
theorem Inv.made (I : Inv X pins σ H s) : Inv X pins σ (upd (upd H s.heap.objs.size (.own (s.heap.objs.size + 1))) (s.heap.objs.size + 1) (.ins C s.heap.objs.size []))
    { s with heap := (s.heap.push PySem.W.emptyDict).push (PySem.W.instObj C s.heap.objs.size) } := by
  have e1 : (s.heap.push PySem.W.emptyDict).get? s.heap.objs.size = some PySem.W.emptyDict := Heap.get?_push_size s.heap rfl
  have e2 : ((s.heap.push PySem.W.emptyDict).push (PySem.W.instObj C s.heap.objs.size)).get? (s.heap.objs.size + 1) = some (PySem.W.instObj C s.heap.objs.size) := by
    have := Heap.get?_push_size (s.heap.push PySem.W.emptyDict) (o := PySem.W.instObj C s.heap.objs.size) rfl
    rwa [Heap.size_push] at this
  have e3 : (s.heap.push PySem.W.emptyDict).Ns s.heap.objs.size (fun _ => none) := ⟨PySem.W.emptyDict, #[], _, e1, rfl, (fun e he => absurd he (by simp)), fun _ => rfl⟩
  have I1 := I.laid (a := s.heap.objs.size) (o := .own (s.heap.objs.size + 1)) (h' := s.heap.push PySem.W.emptyDict) (t' := s.toks) (fun b u q => Heap.get?_push_of_some _ q) (Nat.le_refl _) ⟨_, e1⟩
  refine I1.laid (a := s.heap.objs.size + 1) (o := .ins C s.heap.objs.size []) (t' := s.toks) (fun b u q => Heap.get?_push_of_some _ q) (Nat.le_of_eq (Heap.size_push _ _)) ?_
  have ne : s.heap.objs.size ≠ s.heap.objs.size + 1 := Nat.ne_of_lt (Nat.lt_succ_self _)
  refine ⟨by rw [upd_ne ne, upd_same], Nat.zero_le _, ne, e2, fun _ => none, (Heap.Ns1.of_empty e3).at fun o q => Heap.get?_push_of_some _ q, fun _ => True.intro, fun y hy => absurd rfl hy⟩

/-- e.f where nothing but the object is asked: through attributeBase (super) and the last hold -/
theorem attr_of {prog : Program} {w : World} {env : Env} {e : Expr} {f : Str} {pos : Pos} {s : Shared} {Q : Value → Shared → Prop} (hb : attributeBase e f env (eval e env) = eval e env)
    (h : wpAny (model prog w) A (eval e env) (fun o s₁ => wpAny (model prog w) A (getAttr o f true) Q E s₁) E s) : wpAny (model prog w) A (eval (.Attribute e f pos) env) Q E s :=
  Attribute_any_ h (by rw [arm_eval_Attribute, hb])
end

/-! ### readings and rules -/
/-- e.f, an attribute of the instance -/
def tFld (K : PySem.W.Frag) (ta : TE) (f : Str) : TE := fun σ H Q => ta σ H fun x H1 => ∃ a C dx fs v, x = .ref a ∧ H1 a = some (.ins C dx fs) ∧ Cls K C ∧ NoAttr K C f ∧ fs.lookup f = some v ∧ Q v H1
/-- e.f = value -/
def sFld (K : PySem.W.Frag) (ta tv : TE) (f : Str) : TS := fun D σ H => tv σ H fun y H1 => ta σ H1 fun x H2 => ∃ a C dx fs, x = .ref a ∧ H2 a = some (.ins C dx fs) ∧ Cls K C ∧ NoAttr K C f ∧ fs.length < 1000 ∧
  D.nx σ (upd H2 a (.ins C dx (putF f y fs)))

section
variable {X : Cx} {o e value : Expr} {f : Str} {pos pos' tpos : Pos} {ta tv : TE}
theorem pe_fld (he : PE X e ta) (hb : attributeBase e f X.env (eval e X.env) = eval e X.env) : PE X (.Attribute e f pos) (tFld X.K ta f) := by
  intro pins s σ H Q I h
  refine attr_of hb (thn (he pins s σ H _ I h) fun u s1 ⟨x, H1, I1, rx, a, C, dx, fs, v, ex, ea, c, n, l, q⟩ => ?_)
  subst ex
  obtain rfl : u = Value.ref a := rx
  exact getattr_ok I1 ea c n l fun u' s2 I2 ru => ⟨v, H1, I2, ru, q⟩
theorem ps_fld (ha : PE X o ta) (hv : PE X value tv) (hs : swapsWith value (some (.Attribute o f pos')) pos.line X.env = pure false) : PS X (.Assign [.Attribute o f pos'] value pos) (sFld X.K ta tv f) := by
  intro pins s σ H D I h
  refine plainObj_wpAny_Assign_Attribute (thn (hv pins s σ H _ I h) fun u s1 ⟨y, H1, I1, ry, q⟩ => thn (ha pins s1 σ H1 _ I1 q) fun ov s2 ⟨x, H2, I2, rx, a, C, dx, fs, ex, ea, c, n, l, q2⟩ => ?_) hs
  subst ex
  obtain rfl : ov = Value.ref a := rx
  exact setattr_ok I2 ea c n l ry fun s3 I3 => ⟨σ, _, I3, q2⟩

end

/-! ### isinstance -/
section
variable {X : Cx} {pins : List (Addr × Obj)} {σ : St} {H : Hp} {s : Shared} {A : Around} {E : Value → Shared → Prop} {Q : Value → Shared → Prop} {c : Value} {b : Bool}
/-- the type of a value, as the fragment's deciders take it; for an instance its class -/
inductive TyOf (K : PySem.W.Frag) (H : Hp) : V → Value → Prop where
  | non : TyOf K H .non (.type "NoneType")
  | bl (x : Bool) : TyOf K H (.bl x) (.type "bool")
  | int (i : Int) : TyOf K H (.int i) (.type "int")
  | str (x : Str) : TyOf K H (.str x) (.type "str")
  | flt (x : UInt64) : TyOf K H (.flt x) (.type "float")
  | lst {a : Addr} {xs : List V} (e : H a = some (.lst xs)) : TyOf K H (.ref a) (.type "list")
  | frz {a : Addr} {o : Obj} {xs : List V} (e : H a = some (.frz o (.lst xs))) : TyOf K H (.ref a) (.type "list")
  | tup {a : Addr} {xs : List V} (e : H a = some (.tup xs)) : TyOf K H (.ref a) (.type "tuple")
  | dK {a : Addr} {kvs : List (Key × V)} (e : H a = some (.dK kvs)) : TyOf K H (.ref a) (.type "dict")
  | dT {a : Addr} {kvs : List (List Key × V)} (e : H a = some (.dT kvs)) : TyOf K H (.ref a) (.type "dict")
  | ins {a C dx : Addr} {fs : List (Str × V)} (e : H a = some (.ins C dx fs)) (cl : Cls K C) (ha : PySem.W.findIn K (.ref C) "__class__" = some (some (.builtin "object.__class__")))
      (hn : PySem.W.specialIn K (.builtin "object.__class__") "__get__" = some (some (.builtin "getset_descriptor.__get__"))) (htk : PySem.W.takesIn K (.builtin "object.__class__") = some true)
      (hm : PySem.W.mroIn K C (.type "object") = some true) : TyOf K H (.ref a) (.ref C)
/-- isinstance(x, c) for one class c, a built-in or an own one: kitOne's answer -/
theorem isinst_ok {x : V} {u t : Value} (I : Inv X pins σ H s) (rx : RelV x u) (ty : TyOf X.K H x t) (e : PySem.W.kitOne X.K t c = some b) (h : ∀ tk, Q (.bool b) { s with toks := tk }) :
    wpAny (model X.prog X.w) A (call (.builtin "isinstance") [u, c]) Q E s := by
  cases ty with
  | non => cases (show u = Value.none from rx); exact PySem.W.kia_one PySem.W.kitx_none I.kIn True.intro e (fun z => nomatch z) h
  | bl y => cases (show u = Value.bool y from rx); exact PySem.W.kia_one PySem.W.kitx_bool I.kIn True.intro e (fun z => nomatch z) h
  | int i => obtain ⟨t, q⟩ := (show ∃ t, u = Value.int i t from rx); cases q; exact PySem.W.kia_one PySem.W.kitx_int I.kIn True.intro e (fun z => nomatch z) h
  | str y => obtain ⟨t, q⟩ := (show ∃ t, u = Value.str y t from rx); cases q; exact PySem.W.kia_one PySem.W.kitx_str I.kIn True.intro e (fun z => nomatch z) h
  | flt y => obtain ⟨t, q⟩ := (show ∃ t, u = Value.float y t from rx); cases q; exact PySem.W.kia_one PySem.W.kitx_float I.kIn True.intro e (fun z => nomatch z) h
  | @lst a xs ea =>
    cases (show u = Value.ref a from rx)
    obtain ⟨_, _, n, _, h1⟩ := (show ObjOk X.prog X.w H s.heap a (.lst xs) from I.hok a _ ea)
    exact PySem.W.kia_one PySem.W.kitx_list I.kIn ⟨_, h1, rfl⟩ e (fun z => nomatch z) h
  | @frz a ob xs ea =>
    cases (show u = Value.ref a from rx)
    obtain ⟨_, _, _, n, _, h1⟩ := (show ObjOk X.prog X.w H s.heap a (.frz ob (.lst xs)) from I.hok a _ ea)
    exact PySem.W.kia_one PySem.W.kitx_list I.kIn ⟨_, h1, rfl⟩ e (fun z => nomatch z) h
  | @tup a xs ea =>
    cases (show u = Value.ref a from rx)
    obtain ⟨_, _, _, p⟩ := (show ObjOk X.prog X.w H s.heap a (.tup xs) from I.hok a _ ea)
    obtain ⟨o, h1, h2, _⟩ := p
    exact PySem.W.kia_one PySem.W.kitx_tuple I.kIn ⟨o, h1, h2⟩ e (fun z => nomatch z) h
  | @dK a kvs ea =>
    cases (show u = Value.ref a from rx)
    obtain ⟨_, _, vs, _, p⟩ := (show ObjOk X.prog X.w H s.heap a (.dK kvs) from I.hok a _ ea)
    obtain ⟨o, es, ep, h1, h2, _⟩ := p
    exact PySem.W.kia_one PySem.W.kitx_dict I.kIn ⟨o, h1, h2.1⟩ e (fun z => nomatch z) h
  | @dT a kvs ea =>
    cases (show u = Value.ref a from rx)
    obtain ⟨_, _, xs, _, o, es, ep, h1, h2, _⟩ := (show ObjOk X.prog X.w H s.heap a (.dT kvs) from I.hok a _ ea)
    exact PySem.W.kia_one PySem.W.kitx_dict I.kIn ⟨o, h1, h2.1⟩ e (fun z => nomatch z) h
  | @ins a C dx fs ea cl ha hn htk hm =>
    cases (show u = Value.ref a from rx)
    obtain ⟨mA, O, _⟩ := ins_get I.hok ea
    obtain ⟨od, J, _⟩ := O.look
    exact PySem.W.kia_one (PySem.W.kitx_own (cl.get _) cl.hd ha hn htk hm) I.kIn J e (fun z => nomatch z) h
end
end L2

namespace L2
open PySem PySem.Spec PyProof.Rows

/-! ### room -/
structure Room (k : Nat) (A : Around) : Prop where
  hd : A.handled = none
  dp : A.depth + 3 * k + 5 < recursionLimit
  un : A.units + 16 * k + 200 < cLine
theorem Room.mono {j k : Nat} {A : Around} (r : Room k A) (h : j ≤ k) : Room j A := ⟨r.hd, by have := r.dp; omega, by have := r.un; omega⟩
theorem Room.deeper {k : Nat} {A : Around} (r : Room (k + 1) A) (env : Env) : Room k (A.deeper env) :=
  ⟨r.hd, by have := r.dp; show A.depth + 1 + 3 * k + 5 < _; omega, by have := r.un; show A.units + 3 + 16 * k + 200 < _; omega⟩
theorem Room.in1 {k : Nat} {A : Around} (r : Room (k + 1) A) : Room k A.in1 :=
  ⟨r.hd, by have := r.dp; show A.depth + 3 * k + 5 < _; omega, by have := r.un; show A.units + 1 + 16 * k + 200 < _; omega⟩
theorem make_depth {A : Around} {C : Addr} {us : List Value} {kw : List (Str × Value)} : (A.under (.builtin "type.__call__" ⟨.ref C :: us, kw⟩)).depth = A.depth + 1 := by
  first | rfl | simp [Around.under, Code.weight, Code.isCreation, Code.isGuard, Code.isCaller, Code.frames, Code.isFrame, guardIds]
theorem make_units {A : Around} {C : Addr} {us : List Value} {kw : List (Str × Value)} : (A.under (.builtin "type.__call__" ⟨.ref C :: us, kw⟩)).units = A.units + 1 := by
  first | rfl | simp [Around.under, Code.cUnits, Code.frames, Code.isFrame]
theorem Room.make {k : Nat} {A : Around} (r : Room (k + 1) A) (C : Addr) (us : List Value) (kw : List (Str × Value)) : Room k (A.under (.builtin "type.__call__" ⟨.ref C :: us, kw⟩)) :=
  ⟨r.hd, by have := r.dp; rw [make_depth]; omega, by have := r.un; rw [make_units]; omega⟩
theorem Room.depth {k : Nat} {A : Around} (r : Room k A) : A.depth < recursionLimit := by have := r.dp; omega
theorem Room.units {k : Nat} {A : Around} (r : Room k A) : A.units + 64 < cLine := by have := r.un; omega

/-! ### argument lists and displays -/
def tNil : TA := fun _ H Q => Q [] H
def tCons (ta : TE) (tr : TA) : TA := fun σ H Q => ta σ H fun x H1 => tr σ H1 fun xs H2 => Q (x :: xs) H2
section
variable {X : Cx} {e : Expr} {es : List Expr} {te : TE} {t : TA} {pos : Pos}
theorem pa_nil : PA X [] tNil := fun _ _ _ _ H Q I h => Calls.spliced_nil ⟨[], H, I, .nil, h⟩
theorem pa_cons (ha : PE X e te) (hr : PA X es t) (hs : starEach (e :: es) X.env = (false, eval e X.env) :: starEach es X.env := by rfl) : PA X (e :: es) (tCons te t) := by
  intro pos pins s σ H Q I h
  rw [hs]
  show wpAny _ _ (spliced ((false, eval e X.env) :: backTo pos (starEach es X.env))) _ _ s
  refine Calls.spliced_cons (thn (ha pins s σ H _ I h) fun u s1 ⟨x, H1, I1, r1, q1⟩ => ?_)
  exact thn (hr pos pins s1 σ H1 _ I1 q1) fun us s2 ⟨xs, H2, I2, r2, q2⟩ => ⟨x :: xs, H2, I2, .cons r1 r2, q2⟩

/-- a tuple, a list of written items -/
def tTup (t : TA) : TE := fun σ H Q => t σ H fun xs H1 => xs.length ≤ sizeLine ∧ ∀ p, H1 p = none → Q (.ref p) (upd H1 p (.tup xs))
def tLst (t : TA) : TE := fun σ H Q => t σ H fun xs H1 => xs.length ≤ sizeLine ∧ ∀ p, H1 p = none → Q (.ref p) (upd H1 p (.lst xs))
theorem pe_tup {x1} (h : PA X es t) : PE X (.Tuple es x1 pos) (tTup t) := by
  intro pins s σ H Q I hq
  refine wpAny_Tuple_spliced (thn (h pos pins s σ H _ I hq) fun us s1 ⟨xs, H1, I1, r, z, q⟩ => ⟨by rw [← r.length]; exact z, ?_⟩)
  have hf : H1 s1.heap.objs.size = none := I1.hok.fresh (Nat.le_refl _)
  refine ⟨.ref s1.heap.objs.size, upd H1 s1.heap.objs.size (.tup xs), I1.laid (t' := s1.toks) (fun b u e => Heap.get?_push_of_some _ e) (Nat.le_refl _) ?_, rfl, q _ hf⟩
  exact ⟨z, us, r, ⟨_, Heap.get?_push_size _ rfl, rfl, _, rfl⟩⟩
theorem pe_lst (h : PA X es t) : PE X (.List es pos) (tLst t) := by
  intro pins s σ H Q I hq
  refine wpAny_List_spliced (thn (h pos pins s σ H _ I hq) fun us s1 ⟨xs, H1, I1, r, z, q⟩ => ⟨by rw [← r.length]; exact z, ?_⟩)
  have hf : H1 s1.heap.objs.size = none := I1.hok.fresh (Nat.le_refl _)
  refine ⟨.ref s1.heap.objs.size, upd H1 s1.heap.objs.size (.lst xs), I1.laid (t' := s1.toks) (fun b u e => Heap.get?_push_of_some _ e) (Nat.le_refl _) ?_, rfl, q _ hf⟩
  exact ⟨z, us, 0, r, Heap.get?_push_size _ rfl⟩
end

/-! ### what a def promises -/
/-- a def's promise: the bound arguments in the parameters' order, the heap, the wanted end, the wanted exception -/
abbrev Sp := List V → Hp → VK → XK → Prop
/-- how an exception lies behind a call (file 08 gives it): the callers' frames, abstract heap and state ahead of the call, the wish, the exception, the state -/
abbrev CXT := List Env → Hp → Shared → XK → Value → Shared → Prop

/-- the state at a call -/
structure Env0 (P : Program) (w : World) (K : PySem.W.Frag) (mg : Str → Option Value) (base : Heap) (A : Around) (outer : List Env) (s : Shared) (H : Hp) : Prop where
  frames : A.frames = some outer
  mod : Mod K mg base
  bs : ∀ b o, base.get? b = some o → s.heap.get? b = some o ∧ H b = none
  bsz : base.objs.size ≤ s.heap.objs.size
  funs : s.heap.FunFrames base outer
  frf : ∀ b ∈ frs outer, H b = none
  hok : HOk P w H s.heap
  bare : AllBare s.gens
/-- a call's end -/
def CE (outer : List Env) (P : Program) (w : World) (H : Hp) (s : Shared) (Q : VK) (u : Value) (s' : Shared) : Prop :=
  ∃ v H', s'.os = s.os ∧ AllBare s'.gens ∧ Un (frs outer) [] H H' s.heap s'.heap ∧ HOk P w H' s'.heap ∧ RelV v u ∧ Q v H'
def CR (CX : CXT) (outer : List Env) (P : Program) (w : World) (H : Hp) (s : Shared) (Q : VK) (E : XK) (r : Result) (s' : Shared) : Prop :=
  match r with
  | .ok (.ret u) => CE outer P w H s Q u s'
  | .ok _ => False
  | .error e => CX outer H s E e s'
structure FnOk (P : Program) (w : World) (K : PySem.W.Frag) (mg : Str → Option Value) (base : Heap) (CX : CXT) (k : Nat) (f : Addr) (fd : FuncData) (ps : List Str) (sp : Sp) : Prop where
  len : ∀ vs H Q E, sp vs H Q E → vs.length = ps.length
  run : ∀ (A : Around) (outer : List Env) (s : Shared) (H : Hp) (args : Args) (us : List Value) (vs : List V) (Q : VK) (E : XK), Room k A → Env0 P w K mg base A outer s H → BindsTo s fd args (ps.zip us) → Vals vs us → sp vs H Q E →
    codeAny (model P w) A (.call (.ref f) args) (CR CX outer P w H s Q E) s
theorem FnOk.mono {P : Program} {w : World} {K : PySem.W.Frag} {mg : Str → Option Value} {base : Heap} {CX : CXT} {j k : Nat} {f : Addr} {fd : FuncData} {ps : List Str} {sp : Sp} (F : FnOk P w K mg base CX j f fd ps sp) (h : j ≤ k) :
    FnOk P w K mg base CX k f fd ps sp := ⟨F.len, fun A outer s H args us vs Q E hr => F.run A outer s H args us vs Q E (hr.mono h)⟩
/-- a weaker promise -/
theorem FnOk.imp {P : Program} {w : World} {K : PySem.W.Frag} {mg : Str → Option Value} {base : Heap} {CX : CXT} {k : Nat} {f : Addr} {fd : FuncData} {ps : List Str} {sp sp' : Sp} (F : FnOk P w K mg base CX k f fd ps sp)
    (h : ∀ vs H Q E, sp' vs H Q E → sp vs H Q E) : FnOk P w K mg base CX k f fd ps sp' :=
  ⟨fun vs H Q E q => F.len vs H Q E (h _ _ _ _ q), fun A outer s H args us vs Q E hr he hb hv hs => F.run A outer s H args us vs Q E hr he hb hv (h _ _ _ _ hs)⟩

theorem Env0.make {P : Program} {w : World} {K : PySem.W.Frag} {mg : Str → Option Value} {base : Heap} {A : Around} {outer : List Env} {s : Shared} {H : Hp} (e : Env0 P w K mg base A outer s H) (C : Addr) (us : List Value) (kw : List (Str × Value)) :
    Env0 P w K mg base (A.under (.builtin "type.__call__" ⟨.ref C :: us, kw⟩)) outer s H := ⟨by first | exact e.frames | (simpa [Around.under, Code.envs, Code.isFrame, pushEnvs] using e.frames), e.mod, e.bs, e.bsz, e.funs, e.frf, e.hok, e.bare⟩
theorem Env0.in1 {P : Program} {w : World} {K : PySem.W.Frag} {mg : Str → Option Value} {base : Heap} {A : Around} {outer : List Env} {s : Shared} {H : Hp} (e : Env0 P w K mg base A outer s H) :
    Env0 P w K mg base A.in1 outer s H := ⟨e.frames, e.mod, e.bs, e.bsz, e.funs, e.frf, e.hok, e.bare⟩

section
variable {X : Cx} {pins : List (Addr × Obj)} {σ : St} {H : Hp} {s s' : Shared}
/-- from a body: what a callee wants -/
theorem Inv.env0 (I : Inv X pins σ H s) : Env0 X.prog X.w X.K X.mg X.base X.A X.stack s H :=
  ⟨I.ok.frames, I.ok.mod, I.bs, Nat.le_trans I.ok.bsz I.sz, I.stack, I.stkFree, I.hok, I.bare⟩
/-- behind a call -/
theorem Inv.after {Q : VK} {u : Value} (I : Inv X pins σ H s) (h : CE X.stack X.prog X.w H s Q u s') : EP X pins σ Q u s' := by
  obtain ⟨v, H', os, bare, un, hok, r, q⟩ := h
  obtain ⟨hh, g, d, t, os'⟩ := s'
  obtain rfl : os' = s.os := os
  exact ⟨v, H', I.call (h' := hh) (g' := g) (d' := d) (t' := t) (ch := []) un hok bare (fun b z => absurd z (by simp)), r, q⟩
end

/-! ### calls -/

/-- how the parameters are bound: us the positional arguments, kw the keywords' values by name, ds the defaults that fill up -/
def Binds (K : PySem.W.Frag) (fd : FuncData) (ps : List Str) (ds : List Value) : Prop :=
  ∀ (s : Shared) (us : List Value), K.In s.heap → (us ++ ds).length = ps.length → BindsTo s fd ⟨us, []⟩ (ps.zip (us ++ ds))
/-- every parameter is given -/
theorem Binds.all {K : PySem.W.Frag} {fd : FuncData} {ps : List Str} (h : ∀ us : List Value, us.length = ps.length → bindArgs fd ⟨us, []⟩ = pure (ps.zip us)) : Binds K fd ps [] := fun s us _ hl => by
  rw [List.append_nil] at hl ⊢
  exact .of_eq (h us hl)


section
variable {X : Cx} {CX : CXT} {k : Nat} {f C : Addr} {fd : FuncData} {ps : List Str} {sp : Sp} {dvs : List V} {ds : List Value} {E : XK} {x m : Str} {p pos apos : Pos} {e o : Expr} {es : List Expr} {ta : TE} {t : TA}




/-- what a class must have to be made -/
structure Mk (K : PySem.W.Frag) (C f : Addr) : Prop where
  makes : PySem.W.makesIn K C = true
  init : PySem.W.findIn K (.ref C) "__init__" = some (some (.ref f))
  fn : PySem.W.isFn K (.ref f) = true
  kp : PySem.W.keepIn K (.ref C) = true

end

/-! ### keywords -/
section
variable {X : Cx} {CX : CXT} {k : Nat} {f C : Addr} {fd : FuncData} {ps ks : List Str} {sp : Sp} {E : XK} {x m : Str} {p pos apos kpos : Pos} {e o : Expr} {es : List Expr} {kws : List Keyword} {te ta : TE} {t tk : TA} {nm : Option Str}

/-- how a call with keywords binds: g puts the positional values us and the keywords' values ws (names ks) in the parameters' order, defaults among them -/
structure KBinds (K : PySem.W.Frag) (fd : FuncData) (ps ks : List Str) (g : List Value → List Value → List Value) (gV : List V → List V → List V) : Prop where
  to : ∀ (s : Shared) (us ws : List Value), K.In s.heap → (g us ws).length = ps.length → BindsTo s fd ⟨us, ks.zip ws⟩ (ps.zip (g us ws))
  rel : ∀ {vs : List V} {us : List Value} {zs : List V} {ws : List Value}, Vals vs us → Vals zs ws → Vals (gV vs zs) (g us ws)
variable {g : List Value → List Value → List Value} {gV : List V → List V → List V}
end

/-! ### a def's body keeps its promise -/
/-- names: the parameters first -/
structure FnScope (N P : List Str) (sc : Scope) : Prop where
  kind : sc.kind = .function
  co : sc.isCoroutine = false
  gen : sc.isGenerator = false
  nd : N.Nodup
  pre : N.take P.length = P
  par : ∀ x ∈ P, sc.names.lookup x = some .local ∨ sc.names.lookup x = some .cell
  nofree : ∀ y ∈ sc.names, y.2 ≠ .free

theorem bindL_out {kindOf : Str → Option NameKind} {x : Str} : ∀ {binds : List (Str × Value)} {m : Str → Option Value}, (∀ v, (x, v) ∉ binds) → bindL kindOf binds m x = m x
  | [], _, _ => rfl
  | (n, v) :: r, m, h => by
    unfold bindL
    rw [bindL_out fun w hw => h w (List.mem_cons_of_mem _ hw)]
    split
    · have : x ≠ n := by rintro rfl; exact h v List.mem_cons_self
      simp [this]
    · rfl
theorem bindC_out {kindOf : Str → Option NameKind} {x : Str} : ∀ {binds : List (Str × Value)} {m : Str → Option Value}, (∀ v, (x, v) ∉ binds) → bindC kindOf binds m x = m x
  | [], _, _ => rfl
  | (n, v) :: r, m, h => by
    unfold bindC
    rw [bindC_out fun w hw => h w (List.mem_cons_of_mem _ hw)]
    split
    · rfl
    · have : x ≠ n := by rintro rfl; exact h v List.mem_cons_self
      simp [this]
theorem bindL_get {kindOf : Str → Option NameKind} {x : Str} {v : Value} : ∀ {P : List Str} {vs : List Value} {i : Nat} {m : Str → Option Value}, P.Nodup → P[i]? = some x → vs[i]? = some v → kindOf x = some .local →
    bindL kindOf (P.zip vs) m x = some v
  | [], _, _, _, _, h, _, _ => by simp at h
  | _ :: _, [], _, _, _, _, h, _ => by simp at h
  | p :: P, w :: vs, 0, m, nd, h1, h2, hk => by
    simp at h1 h2; subst h1; subst h2
    show bindL kindOf ((p, w) :: P.zip vs) m p = _
    unfold bindL
    rw [bindL_out fun v hv => (List.nodup_cons.mp nd).1 (List.of_mem_zip hv).1, if_pos hk]
    simp
  | p :: P, w :: vs, i + 1, m, nd, h1, h2, hk => by
    show bindL kindOf ((p, w) :: P.zip vs) m x = _
    unfold bindL
    exact bindL_get (i := i) (List.nodup_cons.mp nd).2 (by simpa using h1) (by simpa using h2) hk
theorem bindC_get {kindOf : Str → Option NameKind} {x : Str} {v : Value} : ∀ {P : List Str} {vs : List Value} {i : Nat} {m : Str → Option Value}, P.Nodup → P[i]? = some x → vs[i]? = some v → kindOf x ≠ some .local →
    bindC kindOf (P.zip vs) m x = some v
  | [], _, _, _, _, h, _, _ => by simp at h
  | _ :: _, [], _, _, _, _, h, _ => by simp at h
  | p :: P, w :: vs, 0, m, nd, h1, h2, hk => by
    simp at h1 h2; subst h1; subst h2
    show bindC kindOf ((p, w) :: P.zip vs) m p = _
    unfold bindC
    rw [bindC_out fun v hv => (List.nodup_cons.mp nd).1 (List.of_mem_zip hv).1, if_neg hk]
    simp
  | p :: P, w :: vs, i + 1, m, nd, h1, h2, hk => by
    show bindC kindOf ((p, w) :: P.zip vs) m x = _
    unfold bindC
    exact bindC_get (i := i) (List.nodup_cons.mp nd).2 (by simpa using h1) (by simpa using h2) hk

/-- the names' values at the entry -/
def start (N : List Str) (vs : List V) : St := vs.map some ++ List.replicate (N.length - vs.length) none

/-- the context of a def's body, at its entry; an exception leaves the frame, then lies as CX says -/
def cxOf (CX : CXT) (P : Program) (w : World) (K : PySem.W.Frag) (mg : Str → Option Value) (base : Heap) (N : List Str) (qual : Str) (scope : Scope) (f : Addr) (cd : Value) (A : Around) (outer : List Env) (s : Shared) (H : Hp) (E : XK) : Cx where
  prog := P
  w := w
  K := K
  mg := mg
  base := base
  A := A.deeper (envOfC qual scope s.heap.objs.size f cd)
  N := N
  s₀ := s
  H₀ := H
  env := envOfC qual scope s.heap.objs.size f cd
  outer := outer
  stack := envOfC qual scope s.heap.objs.size f cd :: outer
  ex := []
  calm := true
  fn := fun _ => true
  pn := []
  xe := fun e s' => wpAny (model P w) (A.deeper (envOfC qual scope s.heap.objs.size f cd)) (leaving (envOfC qual scope s.heap.objs.size f cd) e) (fun _ s'' => CX outer H s E e s'') (fun e' s'' => CX outer H s E e' s'') s'

theorem cell_has {sc : Scope} {n : Nat} {x : Str} (h : sc.names.lookup x = some .cell) : ∃ c, (cellsFrom n sc.names []).lookup x = some c := by
  have q := PySem.W.cellsFrom_some sc.names n [] (.inl h)
  exact Option.isSome_iff_exists.mp q

theorem inv_start {CX : CXT} {P : Program} {w : World} {K : PySem.W.Frag} {mg : Str → Option Value} {base : Heap} {N ps : List Str} {qual : Str} {scope : Scope} {f : Addr} {cd : Value} {A : Around} {outer : List Env} {s s1 : Shared} {H : Hp} {E : XK} {us : List Value} {vs : List V}
    (S : FnScope N ps scope) (hd : A.handled = none) (e0 : Env0 P w K mg base A outer s H) (hl : vs.length = ps.length) (r : Vals vs us)
    (x : InCallC s s.heap.objs.size (bindL (envOfC qual scope s.heap.objs.size f cd).kindOf (ps.zip us) fun _ => none) (cellsFrom (s.heap.objs.size + 1) scope.names []) (bindC (envOfC qual scope s.heap.objs.size f cd).kindOf (ps.zip us) fun _ => none) s1) :
    Inv (cxOf CX P w K mg base N qual scope f cd A outer s H E) [] (start N vs) H s1 := by
  have hpl : ps.length ≤ N.length := by have := congrArg List.length S.pre; rw [List.length_take] at this; omega
  obtain ⟨h1, tk, rfl, hk⟩ := x.done
  have noA : ∀ b : Addr, b ∉ (cxOf CX P w K mg base N qual scope f cd A outer s H E).ex := fun b z => absurd (show b ∈ ([] : List Addr) from z) (by simp)
  refine ⟨⟨e0.mod, S.kind, rfl, rfl, Nat.le_refl _, fun y z c h1 h2 => ?_, fun y hy => ?_, fun y c _ h => ?_, fun _ => hd, Around.frames_deeper e0.frames, .inr ⟨rfl, rfl⟩, fun b z => absurd z (noA b), e0.bs, e0.bsz, fun b _ _ => noA b, fun b z => absurd z (noA b), e0.funs, e0.frf⟩,
    rfl, e0.bare, Un.kept hk, ⟨_, x.toInCall.ns, fun i y v h1 h2 h3 => ?_⟩, fun y c h => ⟨_, x.cell y c h⟩, e0.hok.fresh (Nat.le_refl _), fun y c h => ?_, fun p hp => absurd (show p ∈ ([] : List (Addr × Obj)) from hp) (by simp), e0.hok.kept hk, ?_⟩
  · exact name_of_addr x.apart (PySem.mem_of_lookup h1) (PySem.mem_of_lookup h2)
  · have hy : scope.names.lookup y = some .cell ∨ scope.names.lookup y = some .free := hy
    rcases hy with hy | hy
    · exact cell_has hy
    · exact absurd rfl (S.nofree _ (PySem.mem_of_lookup hy))
  · exact Nat.le_of_lt (x.above y c (PySem.mem_of_lookup h))
  · have hi : i < vs.length := by
      unfold start at h2
      by_cases hi : i < vs.length
      · exact hi
      · rw [List.getElem?_append_right (by simpa using hi)] at h2
        rw [List.getElem?_replicate] at h2
        split at h2 <;> cases h2
    have ha : vs[i]? = some v := by
      unfold start at h2
      rw [List.getElem?_append_left (by simpa using hi), List.getElem?_map] at h2
      cases e : vs[i]? with
      | none => rw [e] at h2; cases h2
      | some a => rw [e] at h2; cases h2; rfl
    obtain ⟨u, hu, rv⟩ := r.get ha
    have hp : ps[i]? = some y := by
      rw [← S.pre, List.getElem?_take_of_lt (by omega)]; exact h1
    have ndP : ps.Nodup := by rw [← S.pre]; exact S.nd.sublist (List.take_sublist _ _)
    refine ⟨u, rv, ?_⟩
    rcases S.par y (List.mem_of_getElem? hp) with k | k
    · exact .inl ⟨k, bindL_get ndP hp hu k⟩
    · obtain ⟨c, e⟩ := cell_has (n := s.heap.objs.size + 1) k
      refine .inr ⟨.inl k, c, e, ?_⟩
      have q := x.cell y c e
      rw [bindC_get ndP hp hu (by show scope.names.lookup y ≠ _; rw [k]; decide)] at q
      exact q
  · exact e0.hok.fresh (Nat.le_of_lt (x.above y c (PySem.mem_of_lookup h)))
  · unfold start
    show _ = N.length
    rw [List.length_append, List.length_map, List.length_replicate]
    omega

/-- THE RULE: a def (or a method) of the text, by its body. The body's reading t is chosen for each entry; it is run at the parameters' values -/
theorem fn_of {CX : CXT} {P : Program} {w : World} {K : PySem.W.Frag} {mg : Str → Option Value} {base : Heap} {k : Nat} {f : Addr} {name qual : Str} {params : Arguments} {body : List Stmt} {scope : Scope} {dV kV doc pm cdv ct oc : Value} {an od : Option Addr}
    {osl : Array (Option Value)} {N ps : List Str} {sp : Sp} (lk : K.lookup f = some ⟨oc, od, .func (PySem.W.fnOf name qual params body scope dV kV doc pm an cdv ct), osl⟩) (hcd : PySem.W.codeIn K cdv qual = true) (S : FnScope N ps scope)
    (len : ∀ vs H Q E, sp vs H Q E → vs.length = ps.length)
    (hbody : ∀ (A : Around) (outer : List Env) (s : Shared) (H : Hp) (vs : List V) (Q : VK) (E : XK), Room k (A.deeper (envOfC qual scope s.heap.objs.size f cdv)) → sp vs H Q E →
      ∃ t, PSs (cxOf CX P w K mg base N qual scope f cdv A outer s H E) body t ∧ t { nx := fun _ H' => Q .non H', rt := Q } (start N vs) H) :
    FnOk P w K mg base CX (k + 1) f (PySem.W.fnOf name qual params body scope dV kV doc pm an cdv ct) ps sp := by
  refine ⟨len, fun A outer s H args us vs Q E hr e0 hb r hsp => ?_⟩
  have hl := len _ _ _ _ hsp
  have KX : K.In s.heap := e0.mod.kin.keeps fun b o e => (e0.bs b o e).1
  have lim : s.heap.NoLimit := e0.mod.nolimit.keeps fun b o e => (e0.bs b o e).1
  have hkind : ∀ y ∈ ps.zip us, scope.names.lookup y.1 = some .local ∨ (scope.names.lookup y.1 = some .cell ∧ ((cellsFrom (s.heap.objs.size + 1) scope.names []).lookup y.1).isSome = true) := fun ⟨n, v⟩ hy => by
    rcases S.par n (List.of_mem_zip hy).1 with q | q
    · exact .inl q
    · exact .inr ⟨q, PySem.W.cellsFrom_some _ _ _ (.inl q)⟩
  refine codeAny_call_function hr.depth (KX _ _ lk) rfl S.co S.gen rfl (PySem.W.codeRec_of KX hcd) (hb _ _ _ _ ?_)
  refine wpAny_newFunctionEnv_cells S.kind hkind fun env he s1 x => ?_
  subst he
  refine ⟨lim.keeps x.toInCall.keep, codeAny_func ?_⟩
  obtain ⟨t, ht, hq⟩ := hbody A outer s H vs Q E (hr.deeper _) hsp
  have I : Inv (cxOf CX P w K mg base N qual scope f cdv A outer s H E) [] (start N vs) H s1 := inv_start S hr.hd e0 hl r x
  refine wpAny_mono (ht [] s1 (start N vs) H _ I hq) (fun fl s' hs => ?_) fun e s' hs => hs
  have fin : ∀ {σ' : St} {H' : Hp} {v : V} {u : Value}, Inv (cxOf CX P w K mg base N qual scope f cdv A outer s H E) [] σ' H' s' → RelV v u → Q v H' → CE outer P w H s Q u s' :=
    fun {σ' H' v u} J rv q => ⟨v, H', J.os, J.bare, J.base, J.hok, rv, q⟩
  cases fl with
  | ret u =>
    obtain ⟨v, σ', H', J, rv, q⟩ := hs
    exact fin J rv q
  | next =>
    obtain ⟨σ', H', J, q⟩ := hs
    exact fin (v := V.non) (u := Value.none) J rfl q
  | brk =>
    obtain ⟨_, _, _, q⟩ := hs
    exact False.elim q
  | cont =>
    obtain ⟨_, _, _, q⟩ := hs
    exact False.elim q
end L2

namespace L2
open PySem PySem.Spec PyProof.Rows
section
variable {X : Cx} {x : Str} {p pos : Pos} {e : Expr} {es : List Expr} {t : TA} {id T : String} {r : List V → Hp → VK → Prop}

def tCB (r : List V → Hp → VK → Prop) (t : TA) : TE := fun σ H Q => t σ H fun vs H1 => r vs H1 Q
/-- f(e, ..), f a built-in function -/
theorem pe_callB (hc : CallR X (.builtin id) r) (hg : Gl X x) (hm : X.mg x = none) (hv : bootBuiltins x = some (.builtin id)) (ha : PA X (e :: es) t) (hn : x ≠ "__name__" := by decide) (hdb : (x == ("__debug__" : Str)) = false := by decide)
    (he : starEach (e :: es) X.env = (false, eval e X.env) :: starEach es X.env := by rfl) (hpl : (backTo pos (starEach es X.env)).any (·.1) = false := by rfl) : PE X (.Call (.Name x p) (e :: es) [] pos) (tCB r t) := by
  intro pins s σ H Q I h
  refine wpAny_Call_Name_kw (ld_blt I hg hm hv ?_ hn hdb)
  exact PyProof.Rows.callWith_builtin1 (thn (ha pos pins s σ H _ I h) fun us s1 ⟨vs, H1, I1, r1, q1⟩ => hc pins s1 σ H1 vs us Q I1 r1 q1) he hpl
/-- T(e, ..), T a built-in type -/
theorem pe_callTy (hc : CallR X (.type T) r) (hg : Gl X x) (hm : X.mg x = none) (hv : bootBuiltins x = some (.type T)) (ha : PA X (e :: es) t) (hn : x ≠ "__name__" := by decide) (hdb : (x == ("__debug__" : Str)) = false := by decide)
    (he : starEach (e :: es) X.env = (false, eval e X.env) :: starEach es X.env := by rfl) (hpl : (backTo pos (starEach es X.env)).any (·.1) = false := by rfl) : PE X (.Call (.Name x p) (e :: es) [] pos) (tCB r t) := by
  intro pins s σ H Q I h
  refine wpAny_Call_Name_kw (ld_blt I hg hm hv ?_ hn hdb)
  exact PyProof.Rows.callWith_type1 (thn (ha pos pins s σ H _ I h) fun us s1 ⟨vs, H1, I1, r1, q1⟩ => hc pins s1 σ H1 vs us Q I1 r1 q1) he hpl
end
end L2

namespace HT
open PySem PyProof.Rows



section
open PySem.SeqAt
open PySem.AutoSeq1 (wpAny_loadPart')
open PySem.MeetsSeq PySem.MeetsSeq2 PySem.MeetsSeq3

end

section
variable {prog : Program} {w : World} {A : Around} {E : Value → Shared → Prop} {s : Shared}


/-- t + u, t not empty -/
theorem cat_tup {t b : Addr} {vs ws : List Value} {Q : Value → Shared → Prop} (ht : IsTup s.heap t vs.toArray) (hb : IsTup s.heap b ws.toArray) (hv : vs ≠ [])
    (h1 : ws = [] → Q (.ref t) s) (h2 : ws ≠ [] → Q (.ref s.heap.objs.size) { s with heap := s.heap.push { cls := .type "tuple", data := .seq (vs ++ ws).toArray } })
    (hsz : vs.length + ws.length ≤ sizeLine) : wpAny (model prog w) A (binaryOp .Add (.ref t) (.ref b)) Q E s := by
  obtain ⟨⟨cls, dd, data, sl⟩, ho, hc, n, hd⟩ := id ht
  obtain ⟨⟨cls2, dd2, data2, sl2⟩, ho2, hc2, n2, hd2⟩ := id hb
  simp only at hc hd hc2 hd2
  subst hc hd hc2 hd2
  have e : vs.toArray ++ ws.toArray = (vs ++ ws).toArray := by simp
  by_cases hw : ws = []
  · exact concat_meets ⟨_, ho, rfl⟩ ⟨_, ho2, rfl⟩ noFill_tuple_add seq_tuple_add PySem.F.slot_tuple_add PySem.F.entry_tuple_add (PySem.F.args_tuple_add_2 _ _)
      (tuple_addW1 t b vs.toArray ws.toArray n n2 dd dd2 sl sl2 (by simpa using hv) (by simp [hw])) ⟨ho, ho2, h1 hw⟩
  · refine concat_meets ⟨_, ho, rfl⟩ ⟨_, ho2, rfl⟩ noFill_tuple_add seq_tuple_add PySem.F.slot_tuple_add PySem.F.entry_tuple_add (PySem.F.args_tuple_add_2 _ _)
      (tuple_addW2 t b vs.toArray ws.toArray n n2 dd dd2 sl sl2 (by simpa using hv) (by simpa using hw) (by rw [List.size_toArray, List.size_toArray]; exact hsz)) ⟨ho, ho2, ?_⟩
    rw [e]
    exact h2 hw

/-! ### t[a:b], not the whole -/
/-- a slice's bound as a place among n (d where it is left out) -/
def sIx (n d : Nat) : Option Int → Nat
  | none => d
  | some v => if v < 0 then (v + (n : Int)).toNat else min v.toNat n
theorem sIx_le (n d : Nat) (hd : d ≤ n) (o : Option Int) : sIx n d o ≤ n := by
  cases o with
  | none => exact hd
  | some v =>
    show (if v < 0 then (v + (n : Int)).toNat else min v.toNat n) ≤ n
    by_cases hv : v < 0
    · rw [if_pos hv]; omega
    · rw [if_neg hv]; exact Nat.min_le_right _ _
theorem clip_eq (v : Int) (n d : Nat) : (if v < 0 then max (v + (n : Int)) 0 else min v (n : Int)) = ((sIx n d (some v) : Nat) : Int) := by
  show (if v < 0 then max (v + (n : Int)) 0 else min v (n : Int)) = (((if v < 0 then (v + (n : Int)).toNat else min v.toNat n) : Nat) : Int)
  by_cases hv : v < 0
  · simp only [if_pos hv]; omega
  · simp only [if_neg hv]; omega
theorem adjust_gen (lo hi : Option Int) (n : Nat) : Builtin.Slice.sliceAdjust lo hi 1 (n : Int) = (((sIx n 0 lo : Nat) : Int), ((sIx n n hi : Nat) : Int)) := by
  have h1 : ¬ ((1 : Int) < 0) := by omega
  unfold Builtin.Slice.sliceAdjust
  simp only [h1, if_false]
  refine Prod.ext ?_ ?_
  · cases lo with
    | none => rfl
    | some v => exact clip_eq v n 0
  · cases hi with
    | none => rfl
    | some v => exact clip_eq v n n
theorem places_gen (i j : Nat) : Builtin.Slice.slicePlaces (i : Int) (j : Int) 1 = j - i := by
  unfold Builtin.Slice.slicePlaces
  have h1 : (1 : Int) > 0 := by omega
  simp only [h1, if_true, Int.ediv_one]
  split <;> omega
theorem slicePart_ {v : Value} {o : Option Int} {Q : Option Int → Shared → Prop} (p : IsPart v o) (h : Q o s) : wpAny (model prog w) A (Builtin.Slice.slicePartIndex v) Q E s := by
  cases p with
  | none => exact slicePart_none h
  | int i t => exact slicePart_int h
theorem sliceApplied_gen {sl : Addr} {vl vu : Value} {lo hi : Option Int} {n : Nat} {Q : Int × Int × Nat → Shared → Prop} (hs : s.heap.IsSliceOf sl vl vu .none) (pl : IsPart vl lo) (pu : IsPart vu hi)
    (h : Q (((sIx n 0 lo : Nat) : Int), 1, sIx n n hi - sIx n 0 lo) s) : wpAny (model prog w) A (Builtin.Slice.sliceApplied (.ref sl) (pure (n : Int))) Q E s := by
  obtain ⟨os, hos, hcs, hds⟩ := id hs
  unfold Builtin.Slice.sliceApplied Builtin.Slice.sliceFields
  refine wpAny_bind (wpAny_bind (wpAny_field hos hds (x := vl) rfl (wpAny_bind (wpAny_field hos hds (x := vu) rfl (wpAny_bind (wpAny_field hos hds (x := .none) rfl (wpAny_pure ?_)))))))
  refine wpAny_bind (slicePart_none ?_)
  show wpAny _ _ (if ((1 : Int) == 0) = true then _ else _) _ _ s
  rw [if_neg (by decide)]
  refine wpAny_bind (slicePart_ pl (wpAny_bind (slicePart_ pu (wpAny_bind (wpAny_pure ?_)))))
  show wpAny _ _ (match Builtin.Slice.sliceAdjust lo hi 1 (n : Int) with | (lo, hi) => pure (lo, (1 : Int), Builtin.Slice.slicePlaces lo hi 1)) _ _ s
  rw [adjust_gen lo hi n]
  show wpAny _ _ (pure (((sIx n 0 lo : Nat) : Int), (1 : Int), Builtin.Slice.slicePlaces ((sIx n 0 lo : Nat) : Int) ((sIx n n hi : Nat) : Int) 1)) _ _ s
  rw [places_gen]
  exact wpAny_pure h
theorem pick_gen (xs : Array Value) (i k : Nat) : ((List.range k).filterMap fun (m : Nat) => xs[((i : Int) + (m : Int) * 1).toNat]?).toArray = ((xs.toList.drop i).take k).toArray := by
  have e : (fun (m : Nat) => xs[((i : Int) + (m : Int) * 1).toNat]?) = fun m => xs[i + m]? := by
    funext m
    have : ((i : Int) + (m : Int) * 1).toNat = i + m := by omega
    rw [this]
  rw [e]
  have := pick_run xs i k
  rw [List.filterMap_map] at this
  have e2 : ((fun x => xs[x]?) ∘ fun x => i + x) = fun m => xs[i + m]? := rfl
  rw [e2] at this
  rw [this]

theorem getItem_tuple_cut {t sl : Addr} {items : Array Value} {vl vu : Value} {lo hi : Option Int} {Q : Value → Shared → Prop} (ht : IsTup s.heap t items) (hs : s.heap.IsSliceOf sl vl vu .none) (pl : IsPart vl lo) (pu : IsPart vu hi)
    (hw : ¬ (sIx items.size 0 lo = 0 ∧ sIx items.size items.size hi = items.size))
    (h : Q (.ref s.heap.objs.size) { s with heap := s.heap.push { cls := .type "tuple", data := .seq ((items.toList.drop (sIx items.size 0 lo)).take (sIx items.size items.size hi - sIx items.size 0 lo)).toArray } })
    (hsz : items.size ≤ sizeLine) : wpAny (model prog w) A (getItem (.ref t) (.ref sl)) Q E s := by
  have htake : sizeOk (.seq ((items.toList.drop (sIx items.size 0 lo)).take (sIx items.size items.size hi - sIx items.size 0 lo)).toArray) := by
    show ((items.toList.drop (sIx items.size 0 lo)).take (sIx items.size items.size hi - sIx items.size 0 lo)).toArray.size ≤ sizeLine
    rw [List.size_toArray, List.length_take, List.length_drop, Array.length_toList]
    omega
  have hj : sIx items.size items.size hi ≤ items.size := sIx_le _ _ (Nat.le_refl _) hi
  obtain ⟨os, hos, hcs, hds⟩ := id hs
  have hTs : s.TypeIs (.ref sl) "slice" := ⟨os, hos, hcs⟩
  unfold getItem
  try with_reducible refine wpAny_holding ?_
  first | refine wpAny_bind (wpAny_pure ?_) | skip
  refine wpAny_bind (wpAny_sequenceKey ht.typeIs (by decide) ?_)
  refine wpAny_bind (wpAny_callSpecial?_slot (name := Str.ofString "__getitem__") ht.typeIs PyProof.Rows.slot_tuple_getitem
    (wpAny_call_entry PyProof.Rows.slot_tuple_getitem ht.typeIs entry_tuple_getitem ?_ (args_tuple_getitem _ _)))
  show wpAny _ _ (Builtin.Tuple.tupleItemsOf (.ref t) >>= _) _ _ s
  refine wpAny_bind (tupleItemsOf_ ht ?_)
  refine wpAny_bind (wpAny_typeOf hTs ?_)
  rw [if_pos (by decide)]
  refine wpAny_bind (sliceApplied_gen hs pl pu ?_)
  have hno : ¬ ((((sIx items.size 0 lo : Nat) : Int) == 0 && (1 : Int) == 1 && (sIx items.size items.size hi - sIx items.size 0 lo) == items.size) = true) := by
    intro q
    rw [Bool.and_eq_true, Bool.and_eq_true] at q
    have q1 : ((sIx items.size 0 lo : Nat) : Int) = 0 := eq_of_beq q.1.1
    have q2 : sIx items.size items.size hi - sIx items.size 0 lo = items.size := eq_of_beq q.2
    exact hw ⟨by omega, by omega⟩
  show wpAny _ _ (if (((sIx items.size 0 lo : Nat) : Int) == 0 && (1 : Int) == 1 && (sIx items.size items.size hi - sIx items.size 0 lo) == items.size) = true then _ else _) _ _ s
  rw [if_neg hno, pick_gen]
  first
    | exact wpAny_bind (m := Builtin.Tuple.tupleExact _) (wpAny_newObj_type (wpAny_pure ⟨_, rfl, wpAny_pure h⟩) htake)
    | exact wpAny_bind (m := Builtin.Tuple.tupleExact _) (wpAny_newObj_type (wpAny_bind (wpAny_pure (wpAny_pure ⟨_, rfl, wpAny_pure h⟩))) htake)
    | exact wpAny_bind (wpAny_bind (m := Builtin.Tuple.tupleExact _) (wpAny_newObj_type (wpAny_pure (wpAny_pure ⟨_, rfl, wpAny_pure h⟩)) htake))
    | exact wpAny_bind (wpAny_bind (m := Builtin.Tuple.tupleExact _) (wpAny_newObj_type (wpAny_pure ⟨_, rfl, wpAny_pure h⟩) htake))
end
end HT

namespace L2
open PySem PySem.Spec PyProof.Rows

/-! ### the parts of a slice -/
abbrev TO := St → Hp → (Option Int → Hp → Prop) → Prop
/-- a slice's part (left out, or an int) -/
def PO (X : Cx) (e : Option Expr) (t : TO) : Prop :=
  ∀ (pins : List (Addr × Obj)) (s : Shared) (σ : St) (H : Hp) (Q : Option Int → Hp → Prop), Inv X pins σ H s → t σ H Q →
    wpAny (model X.prog X.w) X.A (evalPart e X.env) (fun u s' => ∃ o H', Inv X pins σ H' s' ∧ IsPart u o ∧ Q o H') X.xe s
def tNoPart : TO := fun _ H Q => Q none H
def tPart (t : TE) : TO := fun σ H Q => t σ H fun x H1 => ∃ i, x = .int i ∧ Q (some i) H1

theorem intsAre_of {ns : List Int} : ∀ {us : List Value}, Vals (ns.map V.int) us → IntsAre us ns := by
  induction ns with
  | nil => intro us r; rw [List.map_nil] at r; cases r; exact .nil
  | cons n ns ih =>
    intro us r
    rw [List.map_cons] at r
    cases r with
    | cons r1 r2 =>
      obtain ⟨t, e⟩ := r1
      subst e
      exact .cons n t (ih r2)

section
variable {X : Cx} {e : Expr} {te : TE} {lo hi : Option Expr} {tl th : TO} {pos p2 : Pos}

theorem po_none : PO X none tNoPart := by
  intro pins s σ H Q I h
  rw [evalPart_none]
  exact wpAny_pure ⟨none, H, I, .none, h⟩
theorem po_some (h : PE X e te) : PO X (some e) (tPart te) := by
  intro pins s σ H Q I hw
  rw [evalPart_some]
  refine thn (h pins s σ H _ I hw) fun u s1 ⟨x, H1, I1, r1, q1⟩ => ?_
  obtain ⟨i, rfl, q⟩ := q1
  obtain ⟨t, rfl⟩ := r1
  exact ⟨some i, H1, I1, .int i t, q⟩

/-- what a slice of a value is, by values: the slice object stands at sl -/
def SlR (X : Cx) (r : V → Option Int → Option Int → Hp → VK → Prop) : Prop :=
  ∀ (pins : List (Addr × Obj)) (s : Shared) (σ : St) (H : Hp) (x : V) (v vl vu : Value) (lo hi : Option Int) (sl : Addr) (Q : VK), Inv X pins σ H s → RelV x v → s.heap.IsSliceOf sl vl vu .none → IsPart vl lo → IsPart vu hi → r x lo hi H Q →
    ∃ T id, typeLookup (.type T) "__getitem__" = pure (some (.builtin id)) ∧ s.TypeIs v T ∧ wpAny (model X.prog X.w) X.A (getItem v (.ref sl)) (EP X pins σ Q) X.xe s
theorem SlR.or {r r' : V → Option Int → Option Int → Hp → VK → Prop} (h : SlR X r) (h' : SlR X r') : SlR X (fun x lo hi H Q => r x lo hi H Q ∨ r' x lo hi H Q) := by
  intro pins s σ H x v vl vu lo hi sl Q I rx hs pl pu q
  rcases q with q | q
  · exact h pins s σ H x v vl vu lo hi sl Q I rx hs pl pu q
  · exact h' pins s σ H x v vl vu lo hi sl Q I rx hs pl pu q
def tSl (r : V → Option Int → Option Int → Hp → VK → Prop) (te : TE) (tl th : TO) : TE := fun σ H Q => te σ H fun x H1 => tl σ H1 fun l H2 => th σ H2 fun u H3 => r x l u H3 Q
/-- a[lo:hi], any a -/
theorem pe_slice {r : V → Option Int → Option Int → Hp → VK → Prop} (hr : SlR X r) (he : PE X e te) (hl : PO X lo tl) (hu : PO X hi th) : PE X (.Subscript e (.Slice lo hi none p2) pos) (tSl r te tl th) := by
  intro pins s σ H Q I h
  refine Subscript_ (thn (he pins s σ H _ I h) fun v s1 ⟨x, H1, I1, r1, q1⟩ => ?_)
  refine wpAny_Slice (thn (hl pins s1 σ H1 _ I1 q1) fun vl s2 ⟨l, H2, I2, pl, q2⟩ => thn (hu pins s2 σ H2 _ I2 q2) fun vu s3 ⟨u, H3, I3, pu, q3⟩ => ?_)
  rw [evalPart_none]
  refine wpAny_pure ?_
  have I4 : Inv X pins σ H3 { s3 with heap := s3.heap.push { cls := .type "slice", data := .fields #[vl, vu, .none] } } := I3.kept (t' := s3.toks) fun b ob q => Heap.get?_push_of_some _ q
  obtain ⟨T, id, hT, ht, hg⟩ := hr pins { s3 with heap := s3.heap.push { cls := .type "slice", data := .fields #[vl, vu, .none] } } σ H3 x v vl vu l u s3.heap.objs.size Q I4 r1 (Heap.IsSliceOf.new ..) pl pu q3
  show wpAny (model X.prog X.w) X.A (subscriptTail e (.Slice lo hi none p2) v (.ref s3.heap.objs.size)) (EP X pins σ Q) X.xe { s3 with heap := s3.heap.push { cls := .type "slice", data := .fields #[vl, vu, .none] } }
  exact tail_any (ops := [.ref s3.heap.objs.size, v]) ht hT hg (by with_unfolding_all rfl)

/-- the items of xs[lo:hi] -/
def cutV (xs : List V) (lo hi : Option Int) : List V := (xs.drop (HT.sIx xs.length 0 lo)).take (HT.sIx xs.length xs.length hi - HT.sIx xs.length 0 lo)
theorem cutV_length (xs : List V) (lo hi : Option Int) : (cutV xs lo hi).length ≤ xs.length := by
  unfold cutV
  rw [List.length_take, List.length_drop]
  omega
/-- t[lo:hi], not the whole of it (the whole would be t itself) -/
def rSlT (K : PySem.W.Frag) : V → Option Int → Option Int → Hp → VK → Prop := fun x lo hi H Q => ∃ a xs, x = .ref a ∧ SqT K H a xs ∧
  ¬ (HT.sIx xs.length 0 lo = 0 ∧ HT.sIx xs.length xs.length hi = xs.length) ∧ ∀ p, H p = none → Q (.ref p) (upd H p (.tup (cutV xs lo hi)))
theorem sl_tup : SlR X (rSlT X.K) := by
  intro pins s σ H x v vl vu lo hi sl Q I rx hs pl pu h
  obtain ⟨a, xs, rfl, hx, hw, q⟩ := h
  cases rx
  obtain ⟨its, r, ht, hz⟩ := I.tuple hx
  have hlen : its.toArray.size = xs.length := by rw [List.size_toArray]; exact r.length.symm
  refine ⟨"tuple", _, PyProof.Rows.slot_tuple_getitem.lookup, ht.typeIs, ?_⟩
  refine HT.getItem_tuple_cut ht hs pl pu (by rw [hlen]; exact hw) ?_ (by rw [hlen]; exact hz)
  rw [hlen]
  refine ⟨.ref s.heap.objs.size, _, I.laid (t' := s.toks) (o := .tup (cutV xs lo hi)) (fun b ob q => Heap.get?_push_of_some _ q) (Nat.le_refl _) ?_, rfl, q _ (I.hok.fresh (Nat.le_refl _))⟩
  exact ⟨Nat.le_trans (cutV_length xs lo hi) hz, _, (r.drop (HT.sIx xs.length 0 lo)).take (HT.sIx xs.length xs.length hi - HT.sIx xs.length 0 lo), IsTup.new _ _⟩

/-! ### t < u, t + u -/
/-- t + u, t not empty: u empty gives t itself -/
def rCatT (K : PySem.W.Frag) : R2 := fun x y H Q => ∃ a b xs ys, x = .ref a ∧ y = .ref b ∧ SqT K H a xs ∧ SqT K H b ys ∧ xs ≠ [] ∧ xs.length + ys.length ≤ sizeLine ∧
  (ys = [] → Q (.ref a) H) ∧ (ys ≠ [] → ∀ p, H p = none → Q (.ref p) (upd H p (.tup (xs ++ ys))))
theorem Vals.nil_iff {xs : List V} {us : List Value} (r : Vals xs us) : us = [] ↔ xs = [] := by
  cases r with
  | nil => simp
  | cons _ _ => simp
theorem op_catT : OpR X (binaryOp .Add) (rCatT X.K) := by
  intro pins s σ H x y v u Q I rx ry h
  obtain ⟨a, b, xs, ys, rfl, rfl, ha, hb, hx, hz, q1, q2⟩ := h
  cases rx
  cases ry
  obtain ⟨its, r1, p1, _⟩ := I.tuple ha
  obtain ⟨its2, r2, p2, _⟩ := I.tuple hb
  refine HT.cat_tup p1 p2 (fun z => hx (r1.nil_iff.mp z)) (fun z => ⟨.ref a, H, I, rfl, q1 (r2.nil_iff.mp z)⟩) (fun z => ?_) (by rw [← r1.length, ← r2.length]; exact hz)
  refine ⟨.ref s.heap.objs.size, _, I.laid (t' := s.toks) (o := .tup (xs ++ ys)) (fun b ob q => Heap.get?_push_of_some _ q) (Nat.le_refl _) ?_, rfl, q2 (fun w => z (r2.nil_iff.mpr w)) _ (I.hok.fresh (Nat.le_refl _))⟩
  exact ⟨by rw [List.length_append]; exact hz, _, r1.append r2, IsTup.new _ _⟩
end
end L2

namespace L2
open PySem PySem.Spec PyProof.Rows

/-! ### places -/
/-- the place that an index of any sign means -/
def ixN (n : Nat) (i : Int) : Option Nat := if 0 ≤ i then (if i < n then some i.toNat else none) else if -(n : Int) ≤ i then some (i + n).toNat else none
def atI {α : Type} (xs : List α) (i : Int) : Option α := (ixN xs.length i).bind fun j => xs[j]?
theorem ixN_seq {n : Nat} {i : Int} {j : Nat} (h : ixN n i = some j) : seqIndex? i n = some j ∧ j < n ∧ -(n : Int) ≤ i ∧ i < n := by
  unfold ixN at h
  by_cases h0 : 0 ≤ i
  · rw [if_pos h0] at h
    by_cases h1 : i < n
    · rw [if_pos h1] at h
      have e : i.toNat = j := Option.some.inj h
      exact ⟨by rw [seqIndex_of h0 h1, e], by omega, by omega, h1⟩
    · rw [if_neg h1] at h; cases h
  · rw [if_neg h0] at h
    by_cases h1 : -(n : Int) ≤ i
    · rw [if_pos h1] at h
      have e : (i + n).toNat = j := Option.some.inj h
      exact ⟨by rw [seqIndex_neg (by omega) h1, e], by omega, h1, by omega⟩
    · rw [if_neg h1] at h; cases h
theorem atI_get {α : Type} {xs : List α} {i : Int} {v : α} (h : atI xs i = some v) : ∃ j, seqIndex? i xs.length = some j ∧ xs[j]? = some v ∧ j < xs.length ∧ -(xs.length : Int) ≤ i ∧ i < xs.length := by
  unfold atI at h
  cases e : ixN xs.length i with
  | none => rw [e] at h; cases h
  | some j =>
    rw [e] at h
    obtain ⟨h1, h2, h3, h4⟩ := ixN_seq e
    exact ⟨j, h1, h, h2, h3, h4⟩
theorem atI_nat {α : Type} {xs : List α} {j : Nat} {v : α} (h : xs[j]? = some v) : atI xs (j : Int) = some v := by
  have hj : j < xs.length := (List.getElem?_eq_some_iff.mp h).1
  have e : ixN xs.length (j : Int) = some j := by
    unfold ixN
    rw [if_pos (by omega), if_pos (by omega)]; simp
  unfold atI; rw [e]; exact h

/-! ### what may be subscripted -/
/-- what stands as an index of a plain subscript -/
def PlainIx (b : Expr) : Prop := ∀ o i, subscripted b false o i = operate [o, i] (getItem o i)
/-- a subscript by values -/
def IxR (X : Cx) (r : R2) : Prop :=
  ∀ (value slice : Expr) (pins : List (Addr × Obj)) (s : Shared) (σ : St) (H : Hp) (x y : V) (v u : Value) (Q : VK), Inv X pins σ H s → RelV x v → RelV y u → r x y H Q →
    subscripted slice false v u = operate [v, u] (getItem v u) → wpAny (model X.prog X.w) X.A (subscriptTail value slice v u) (EP X pins σ Q) X.xe s
/-- a call of a builtin's method by values: the receiver, the arguments -/
def MtR (X : Cx) (id : String) (r : V → List V → Hp → VK → Prop) : Prop :=
  ∀ (pins : List (Addr × Obj)) (s : Shared) (σ : St) (H : Hp) (x : V) (xs : List V) (v : Value) (us : List Value) (Q : VK), Inv X pins σ H s → RelV x v → Vals xs us → r x xs H Q →
    wpAny (model X.prog X.w) X.A (call (.builtin id) (v :: us)) (EP X pins σ Q) X.xe s
section
variable {X : Cx} {a b : Expr} {ta tb : TE} {pos : Pos}
theorem IxR.or {r r' : R2} (h : IxR X r) (h' : IxR X r') : IxR X (fun x y H Q => r x y H Q ∨ r' x y H Q) := by
  intro value slice pins s σ H x y v u Q I rx ry q hs
  rcases q with q | q
  · exact h value slice pins s σ H x y v u Q I rx ry q hs
  · exact h' value slice pins s σ H x y v u Q I rx ry q hs
theorem MtR.or {id : String} {r r' : V → List V → Hp → VK → Prop} (h : MtR X id r) (h' : MtR X id r') : MtR X id (fun x xs H Q => r x xs H Q ∨ r' x xs H Q) := by
  intro pins s σ H x xs v us Q I rx rs q
  rcases q with q | q
  · exact h pins s σ H x xs v us Q I rx rs q
  · exact h' pins s σ H x xs v us Q I rx rs q
/-- a[b] -/
theorem pe_ix {r : R2} (hr : IxR X r) (ha : PE X a ta) (hb : PE X b tb) (hs : PlainIx b) : PE X (.Subscript a b pos) (tOp r ta tb) := by
  intro pins s σ H Q I h
  exact Subscript_ (binT ha hb I h fun v u s2 x y H2 I2 rx ry q => hr a b pins s2 σ H2 x y v u Q I2 rx ry q (hs _ _))

def rIxL (K : PySem.W.Frag) : R2 := fun x y H Q => ∃ p xs i v, x = .ref p ∧ y = .int i ∧ SqL K H p xs ∧ atI xs i = some v ∧ Q v H
def rIxT (K : PySem.W.Frag) : R2 := fun x y H Q => ∃ p xs i v, x = .ref p ∧ y = .int i ∧ SqT K H p xs ∧ atI xs i = some v ∧ Q v H
theorem ix_list : IxR X (rIxL X.K) := by
  intro value slice pins s σ H x y v u Q I rx ry h hs
  obtain ⟨p, xs, i, z, rfl, rfl, hq, he, q⟩ := h
  cases rx
  obtain ⟨t, rfl⟩ := ry
  obtain ⟨its, r, pl, hz⟩ := I.list hq
  obtain ⟨j, h1, h2, h3, h4, h5⟩ := atI_get he
  obtain ⟨w, ew, rw'⟩ := r.get h2
  have hl := r.length
  have hn := line63
  have fin : EP X pins σ Q w s := ⟨z, H, I, rw', q⟩
  by_cases h0 : 0 ≤ i
  · have hj : i.toNat = j := by
      rw [seqIndex_of h0 h5] at h1
      exact Option.some.inj h1
    exact item_listR pl.isList h0 (by omega) (by rw [hj]; simpa using ew) fin hs
  · have hj : (i + (its.toArray.size : Int)).toNat = j := by
      rw [seqIndex_neg (by omega) h4] at h1
      rw [List.size_toArray, ← hl]
      exact Option.some.inj h1
    exact subscriptTail_builtinR (x := w) pl.isList.typeIs slot_list_getitem.lookup
      (wpAny_getItem_list_neg (Q := fun r s' => r = w ∧ EP X pins σ Q r s') pl.isList (by omega) (by rw [List.size_toArray] <;> omega) (by omega) (by rw [hj]; simpa using ew) ⟨rfl, fin⟩) hs
theorem ix_tup : IxR X (rIxT X.K) := by
  intro value slice pins s σ H x y v u Q I rx ry h hs
  obtain ⟨p, xs, i, z, rfl, rfl, hq, he, q⟩ := h
  cases rx
  obtain ⟨t, rfl⟩ := ry
  obtain ⟨its, r, pl, hz⟩ := I.tuple hq
  obtain ⟨j, h1, h2, h3, h4, h5⟩ := atI_get he
  obtain ⟨w, ew, rw'⟩ := r.get h2
  have hl := r.length
  have hn := line63
  have fin : EP X pins σ Q w s := ⟨z, H, I, rw', q⟩
  exact subscriptTail_builtinR (x := w) pl.typeIs slot_tuple_getitem.lookup
    (getItem_tuple (j := j) (Q := fun r s' => r = w ∧ EP X pins σ Q r s') pl (by omega) (by omega) (by rw [List.size_toArray, ← hl]; exact h1) (by simpa using ew) ⟨rfl, fin⟩) hs

/-! ### xs[i] = v, any sign -/
/-- the list's object behind a store -/
theorem mapSeq_set (its : List Value) (n j : Nat) (u : Value) : Obj.mapSeq (·.setIfInBounds j u) { cls := .type "list", data := .seq its.toArray n } = { cls := .type "list", data := .seq (its.set j u).toArray n } := by
  simp [Obj.mapSeq]
theorem Inv.lst {pins : List (Addr × Obj)} {σ : St} {H : Hp} {s : Shared} {p : Addr} {xs : List V} (I : Inv X pins σ H s) (h : H p = some (.lst xs)) :
    ∃ (its : List Value) (n : Nat), Vals xs its ∧ s.heap.get? p = some { cls := .type "list", data := .seq its.toArray n } ∧ xs.length ≤ sizeLine := by
  obtain ⟨z, its, n, r, e⟩ := I.hok p _ h
  exact ⟨its, n, r, e, z⟩
/-- the list at p is written by an update of its object -/
theorem Inv.lstUpd {pins : List (Addr × Obj)} {σ : St} {H : Hp} {s : Shared} {p : Addr} {xs ys : List V} {its its' : List Value} {n n' : Nat} {f : Obj → Obj} (I : Inv X pins σ H s) (h : H p = some (.lst xs))
    (ho : s.heap.get? p = some { cls := .type "list", data := .seq its.toArray n }) (hf : f { cls := .type "list", data := .seq its.toArray n } = { cls := .type "list", data := .seq its'.toArray n' }) (r : Vals ys its') (hz : ys.length ≤ sizeLine) (t : Nat) :
    Inv X pins σ (upd H p (.lst ys)) { s with heap := s.heap.update p f, toks := t } := by
  have e : (s.heap.update p f).get? p = some { cls := .type "list", data := .seq its'.toArray n' } := by
    rw [Heap.get?_update_self f ho (by rw [hf] <;> rfl), hf]
  refine I.write (x := p) (e := p) (by rw [h]; trivial) (.inl rfl) (fun b u hb q => (Heap.get?_update_other _ _ (Ne.symm hb)).trans q) ⟨_, e⟩ ?_
  exact ⟨hz, its', n', r, e⟩
def rSetL : V → V → V → Hp → (Hp → Prop) → Prop := fun o i v H Q => ∃ p xs k j, o = .ref p ∧ i = .int k ∧ H p = some (.lst xs) ∧ ixN xs.length k = some j ∧ Q (upd H p (.lst (xs.set j v)))
theorem set_list : PSet X rSetL := by
  intro pins s σ H o i v ov iv u Q I ro ri rv h
  obtain ⟨p, xs, k, j, rfl, rfl, hp, hj, q⟩ := h
  cases ro
  obtain ⟨t, rfl⟩ := ri
  obtain ⟨its, n, r, ho, hz⟩ := I.lst hp
  obtain ⟨h1, h2, h3, h4⟩ := ixN_seq hj
  have hl := r.length
  have hn := line63
  have I' : Inv X pins σ (upd H p (.lst (xs.set j v))) { s with heap := s.heap.update p (Obj.mapSeq (·.setIfInBounds j u)) } :=
    I.lstUpd hp ho (mapSeq_set its n j u) (r.set rv j) (by rw [List.length_set]; exact hz) s.toks
  by_cases h0 : 0 ≤ k
  · have hk : k.toNat = j := by
      rw [seqIndex_of h0 h4] at h1
      exact Option.some.inj h1
    exact PySem.W.ki_setAt ho h0 (by omega) (by rw [List.size_toArray, ← hl]; exact h4) (by rw [hk]; exact ⟨_, I', q⟩)
  · have hk : (k + (its.toArray.size : Int)).toNat = j := by
      rw [seqIndex_neg (by omega) h3] at h1
      rw [List.size_toArray, ← hl]
      exact Option.some.inj h1
    exact PySem.W.ki_setBack ho (by omega) (by rw [List.size_toArray, ← hl]; exact h3) (by omega) (by rw [hk]; exact ⟨_, I', q⟩)

/-! ### slices -/
theorem slice_bounds (lo hi : Option Int) (n : Nat) : (sliceBounds lo hi none n).1 = ((HT.sIx n 0 lo : Nat) : Int) ∧ (sliceBounds lo hi none n).2.1 = ((HT.sIx n n hi : Nat) : Int) ∧ (sliceBounds lo hi none n).2.2 = 1 := by
  refine ⟨?_, ?_, rfl⟩
  · cases lo with
    | none => simp [sliceBounds, HT.sIx]
    | some i =>
      simp only [sliceBounds, HT.sIx, Option.getD_none, show (1 : Int) > 0 by decide, if_true]
      by_cases h : i < 0
      · simp only [h, if_true] <;> omega
      · simp only [h, if_false] <;> omega
  · cases hi with
    | none => simp [sliceBounds, HT.sIx]
    | some i =>
      simp only [sliceBounds, HT.sIx, Option.getD_none, show (1 : Int) > 0 by decide, if_true]
      by_cases h : i < 0
      · simp only [h, if_true] <;> omega
      · simp only [h, if_false] <;> omega
theorem slicePick_cut (its : List Value) (lo hi : Option Int) : slicePick its.toArray lo hi none = ((its.drop (HT.sIx its.length 0 lo)).take (HT.sIx its.length its.length hi - HT.sIx its.length 0 lo)).toArray := by
  obtain ⟨h1, h2, h3⟩ := slice_bounds lo hi its.toArray.size
  unfold slicePick
  rw [h1, h2, h3]
  simp only [sliceRange_one, pick_run, List.size_toArray] <;> rfl
/-- xs[lo:hi] of a list: a new list -/
def rSlL (K : PySem.W.Frag) : V → Option Int → Option Int → Hp → VK → Prop := fun x lo hi H Q => ∃ a xs, x = .ref a ∧ SqL K H a xs ∧ ∀ p, H p = none → Q (.ref p) (upd H p (.lst (cutV xs lo hi)))
theorem sl_list : SlR X (rSlL X.K) := by
  intro pins s σ H x v vl vu lo hi sl Q I rx hs pl pu h
  obtain ⟨a, xs, rfl, hx, q⟩ := h
  cases rx
  obtain ⟨its, r, ht, hz⟩ := I.list hx
  have hlen := r.length
  refine ⟨"list", _, slot_list_getitem.lookup, ht.isList.typeIs, ?_⟩
  refine wpAny_getItem_list_slice ht.isList hs pl pu .none (by simp) ?_ (by rw [List.size_toArray] <;> omega)
  rw [slicePick_cut, ← hlen]
  refine ⟨.ref s.heap.objs.size, _, I.laid (t' := s.toks) (o := .lst (cutV xs lo hi)) (fun b ob q => Heap.get?_push_of_some _ q) (Nat.le_refl _) ?_, rfl, q _ (I.hok.fresh (Nat.le_refl _))⟩
  exact ⟨Nat.le_trans (cutV_length xs lo hi) hz, _, 0, (r.drop (HT.sIx xs.length 0 lo)).take (HT.sIx xs.length xs.length hi - HT.sIx xs.length 0 lo), Heap.get?_push_size _ rfl⟩

/-! ### in, not in: flat items -/
def flatV : V → Bool
  | .non => true
  | .bl _ => true
  | .int _ => true
  | .str _ => true
  | _ => false
/-- == of flat values -/
def eqV : V → V → Bool
  | .non, .non => true
  | .bl a, .bl b => a == b
  | .bl a, .int b => (if a then 1 else 0) == b
  | .int a, .bl b => a == (if b then 1 else 0)
  | .int a, .int b => a == b
  | .str a, .str b => a == b
  | _, _ => false
theorem eqAt_V {A : Around} {s : Shared} {y x : V} {u v : Value} (ry : RelV y u) (rx : RelV x v) (fy : flatV y = true) (fx : flatV x = true) : SeqAt.EqAt A s u v (eqV y x) := by
  cases y with
  | non =>
    cases ry
    cases x with
    | non => cases rx; exact SeqAt.EqAt.same _
    | bl b => cases rx; exact SeqAt.EqAt.none_bool b
    | int b => obtain ⟨t, rfl⟩ := rx; exact SeqAt.EqAt.none_int b t
    | str b => obtain ⟨t, rfl⟩ := rx; exact SeqAt.EqAt.none_str b t
    | _ => exact absurd (show false = true from fx) Bool.false_ne_true
  | bl a =>
    cases ry
    cases x with
    | non => cases rx; exact SeqAt.EqAt.bool_none a
    | bl b => cases rx; exact SeqAt.EqAt.bool_bool a b
    | int b => obtain ⟨t, rfl⟩ := rx; exact SeqAt.EqAt.bool_int a b t
    | str b => obtain ⟨t, rfl⟩ := rx; exact SeqAt.EqAt.bool_str a b t
    | _ => exact absurd (show false = true from fx) Bool.false_ne_true
  | int a =>
    obtain ⟨t', rfl⟩ := ry
    cases x with
    | non => cases rx; exact SeqAt.EqAt.int_none a t'
    | bl b => cases rx; exact SeqAt.EqAt.int_bool a t' b
    | int b => obtain ⟨t, rfl⟩ := rx; exact SeqAt.EqAt.int_int a t' b t
    | str b => obtain ⟨t, rfl⟩ := rx; exact SeqAt.EqAt.int_str a t' b t
    | _ => exact absurd (show false = true from fx) Bool.false_ne_true
  | str a =>
    obtain ⟨t', rfl⟩ := ry
    cases x with
    | non => cases rx; exact SeqAt.EqAt.str_none a t'
    | bl b => cases rx; exact SeqAt.EqAt.str_bool a t' b
    | int b => obtain ⟨t, rfl⟩ := rx; exact SeqAt.EqAt.str_int a t' b t
    | str b => obtain ⟨t, rfl⟩ := rx; exact SeqAt.EqAt.str_str a t' b t
    | _ => exact absurd (show false = true from fx) Bool.false_ne_true
  | _ => exact absurd (show false = true from fy) Bool.false_ne_true

/-! ### len, list(x), tuple(x) of any list or tuple that is read -/
theorem call_len_seq : CallR X (.builtin "len") (fun xs H Q => ∃ p ys, xs = [.ref p] ∧ (SqL X.K H p ys ∨ SqT X.K H p ys) ∧ Q (.int ys.length) H) := by
  intro pins s σ H xs us Q I r h
  obtain ⟨p, ys, rfl, hq, q⟩ := h
  obtain ⟨u, rfl, rx⟩ := vals1 r
  cases rx
  have hn := line63
  rcases hq with hq | hq
  · obtain ⟨its, r', pl, hz⟩ := I.list hq
    have hlen := r'.length
    exact Calls.call_len_list pl.isList (by simp only [List.size_toArray] <;> omega) ⟨.int ys.length, H, I.tok _, ⟨s.toks + 1, by rw [List.size_toArray, hlen]⟩, q⟩
  · obtain ⟨its, r', pl, hz⟩ := I.tuple hq
    have hlen := r'.length
    exact len_tuple pl (by simp only [List.size_toArray] <;> omega) ⟨.int ys.length, H, I.tok _, ⟨s.toks + 1, by rw [List.size_toArray, hlen]⟩, q⟩
theorem CallR.or {f : Value} {r r' : List V → Hp → VK → Prop} (h : CallR X f r) (h' : CallR X f r') : CallR X f (fun xs H Q => r xs H Q ∨ r' xs H Q) := by
  intro pins s σ H xs us Q I rs q
  rcases q with q | q
  · exact h pins s σ H xs us Q I rs q
  · exact h' pins s σ H xs us Q I rs q
theorem call_list_of : CallR X (.type "list") (fun xs H Q => ∃ p ys, xs = [.ref p] ∧ (SqL X.K H p ys ∨ SqT X.K H p ys) ∧ ∀ l, H l = none → Q (.ref l) (upd H l (.lst ys))) := by
  intro pins s σ H xs us Q I r h
  obtain ⟨p, ys, rfl, hq, q⟩ := h
  obtain ⟨u, rfl, rx⟩ := vals1 r
  cases rx
  have fin : ∀ (its : List Value), Vals ys its → ys.length ≤ sizeLine → ∀ (h' : Heap) (c' : Nat), (∀ b o', s.heap.get? b = some o' → h'.get? b = some o') →
      h'.get? s.heap.objs.size = some { cls := .type "list", dict := none, data := .seq its.toArray c', slots := #[] } → EP X pins σ Q (.ref s.heap.objs.size) { s with heap := h' } := fun its r' hz h' c' kp e =>
    ⟨.ref s.heap.objs.size, _, I.laid (t' := s.toks) kp (Nat.le_refl _) (show ObjOk X.prog X.w _ h' _ (.lst ys) from ⟨hz, its, c', r', e⟩), rfl, q _ (I.hok.fresh (Nat.le_refl _))⟩
  rcases hq with hq | hq
  · obtain ⟨its, r', pl, hz⟩ := I.list hq
    have hlen := r'.length
    obtain ⟨o, ho, hc, n, hd⟩ := pl.isList
    exact call_list_seq p (.inl rfl) ho hc hd (fun h' c' kp e => fin its r' hz h' c' kp e) (by simp only [List.size_toArray] <;> omega)
  · obtain ⟨its, r', pl, hz⟩ := I.tuple hq
    have hlen := r'.length
    obtain ⟨o, ho, hc, n, hd⟩ := pl
    exact call_list_seq p (.inr rfl) ho hc hd (fun h' c' kp e => fin its r' hz h' c' kp e) (by simp only [List.size_toArray] <;> omega)

/-! ### the call of a builtin's method: o.m(..) -/
/-- the value is of that builtin type -/
def tyV (K : PySem.W.Frag) (T : String) (x : V) (H : Hp) : Prop := match x with
  | .str _ => T = "str"
  | .int _ => T = "int"
  | .ref p => (T = "list" ∧ ∃ xs, SqL K H p xs) ∨ (T = "tuple" ∧ ∃ o, K.lookup p = some o ∧ o.cls = .type "tuple" ∧ o.dict = none) ∨
      (T = "dict" ∧ ((∃ kvs, H p = some (.dK kvs)) ∨ ∃ kvs, H p = some (.dT kvs))) ∨ (T = "set" ∧ ∃ S n, H p = some (.set S n))
  | _ => False
theorem tyV_is {pins : List (Addr × Obj)} {σ : St} {H : Hp} {s : Shared} {T : String} {x : V} {v : Value} (I : Inv X pins σ H s) (r : RelV x v) (ty : tyV X.K T x H) :
    s.TypeIs v T ∧ ∀ a, v = .ref a → ∃ ob, s.heap.get? a = some ob ∧ ob.dict = none := by
  cases x with
  | str z =>
    obtain ⟨t, rfl⟩ := r
    cases (show T = "str" from ty)
    exact ⟨typeIs_str s z t, fun _ e => nomatch e⟩
  | int i =>
    obtain ⟨t, rfl⟩ := r
    cases (show T = "int" from ty)
    exact ⟨typeIs_int s i t, fun _ e => nomatch e⟩
  | ref p =>
    cases r
    rcases ty with ⟨rfl, xs, hq⟩ | ⟨rfl, o, hk, hc, hd⟩ | ⟨rfl, hk⟩ | ⟨rfl, S, n, hk⟩
    · obtain ⟨its, _, pl, _⟩ := I.list hq
      refine ⟨pl.isList.typeIs, fun a e => ?_⟩
      cases e
      obtain ⟨o, n, e, c, hd, _⟩ := pl
      exact ⟨o, e, hd⟩
    · refine ⟨⟨o, I.kIn p o hk, hc⟩, fun a e => ?_⟩
      cases e
      exact ⟨o, I.kIn _ o hk, hd⟩
    · have z : ∃ o, s.heap.get? p = some o ∧ o.ExactDict := by
        rcases hk with ⟨kvs, hk⟩ | ⟨kvs, hk⟩
        · obtain ⟨_, _, _, _, o, _, _, e, ex, _⟩ := I.hok p _ hk
          exact ⟨o, e, ex⟩
        · obtain ⟨_, _, _, _, o, _, _, e, ex, _⟩ := I.hok p _ hk
          exact ⟨o, e, ex⟩
      obtain ⟨o, e, ex⟩ := z
      refine ⟨⟨o, e, ex.1⟩, fun a e2 => ?_⟩
      cases e2
      exact ⟨o, e, ex.2.1⟩
    · obtain ⟨o, _, _, _, e, ex, _⟩ := I.hok p _ hk
      refine ⟨⟨o, e, ex.1⟩, fun a e2 => ?_⟩
      cases e2
      exact ⟨o, e, ex.2.1⟩
  | _ => exact False.elim ty
def tBM (K : PySem.W.Frag) (T : String) (r : V → List V → Hp → VK → Prop) (to : TE) (t : TA) : TE := fun σ H Q => to σ H fun x H1 => tyV K T x H1 ∧ t σ H1 fun xs H2 => r x xs H2 Q
variable {o e : Expr} {es : List Expr} {to : TE} {t : TA} {name : Str} {apos cpos : Pos} {T id : String} {r : V → List V → Hp → VK → Prop}
theorem pe_bm (pa : PlainAttrs T) (slot : Slot T name id) (hty : typeOf (.builtin id) = pure (.type "method_descriptor")) (hm : MtR X id r) (ho : PE X o to) (ha : PA X (e :: es) t)
    (hbase : attributeBase o name X.env (eval o X.env) = eval o X.env := by rfl)
    (hfew : ((backTo cpos (starEach (e :: es) X.env)).all (fun x => !x.1) && (backToKw cpos (keywordEach [] X.env)).all (fun x => x.1.isSome)
      && decide ((e :: es).length + ([] : List Keyword).length + (if ([] : List Keyword).isEmpty then 0 else 1) < 30)) = true := by rfl)
    (hline : (apos.endLine == cpos.line) = true := by rfl) (hs : starEach (e :: es) X.env = (false, eval e X.env) :: starEach es X.env := by rfl) (hplain : (backTo cpos (starEach es X.env)).any (·.1) = false := by rfl) :
    PE X (.Call (.Attribute o name apos) (e :: es) [] cpos) (tBM X.K T r to t) := by
  intro pins s σ H Q I h
  refine wpAny_Call_method_late hbase hfew hline rfl (thn (ho pins s σ H _ I h) fun v s1 ⟨x, H1, I1, r1, ty, q1⟩ => ?_)
  obtain ⟨h1, h2⟩ := tyV_is I1 r1 ty
  refine ⟨T, id, pa, slot, hty, h1, h2, ?_⟩
  have hA := ha cpos pins s1 σ H1 _ I1 q1
  rw [hs] at hA ⊢
  refine Calls.callWith_builtin (by show (false || (backTo cpos (starEach es X.env)).any (·.1)) = false; rw [hplain] <;> rfl) (Calls.evalArgs_plain ?_)
  exact thn hA fun us s2 ⟨vs, H2, I2, r2, q2⟩ => hm pins s2 σ H2 x vs v us Q I2 r1 r2 q2
/- xs.append(e), list.index on a module's tuple .. are MtR facts of 06m -/
end
end L2

namespace L2
open PySem PySem.Spec PyProof.Rows

def MtM (X : Cx) (id : String) (r : V → List V → Hp → VK → Prop) : Prop :=
  ∀ (pins : List (Addr × Obj)) (s : Shared) (σ : St) (H : Hp) (x : V) (xs : List V) (v : Value) (us : List Value) (Q : VK), Inv X pins σ H s → RelV x v → Vals xs us → r x xs H Q →
    wpAny (model X.prog X.w) X.A (call (.builtin id) (v :: us)) (EP X pins σ Q) X.xe s

/-! ### lists of values -/
theorem Vals.one : ∀ {x : V} {us : List Value}, Vals [x] us → ∃ u, us = [u] ∧ RelV x u
  | _, _, .cons r .nil => ⟨_, rfl, r⟩
theorem Vals.two : ∀ {x y : V} {us : List Value}, Vals [x, y] us → ∃ u v, us = [u, v] ∧ RelV x u ∧ RelV y v
  | _, _, _, .cons r (.cons q .nil) => ⟨_, _, rfl, r, q⟩
theorem Vals.zero : ∀ {us : List Value}, Vals [] us → us = []
  | _, .nil => rfl

section
variable {X : Cx} {pins : List (Addr × Obj)} {σ : St} {H : Hp} {s : Shared} {l b : Addr} {xs ys zs : List V}

/-! ### the two steps: a tracked list is rewritten, a new list is laid -/
theorem Inv.lset {its its' : List Value} {n : Nat} {f : Array Value → Array Value} {t' : Nat} (I : Inv X pins σ H s) (hH : H l = some (.lst xs))
    (e : s.heap.get? l = some { cls := .type "list", data := .seq its.toArray n }) (hf : f its.toArray = its'.toArray) (hv : Vals ys its') (hz : ys.length ≤ sizeLine) :
    Inv X pins σ (upd H l (.lst ys)) { s with heap := s.heap.update l (Obj.mapSeq f), toks := t' } := by
  have q := PySem.IsL.update e f
  rw [hf] at q
  refine I.write (x := l) (e := l) (by rw [hH]; exact trivial) (.inl rfl) (fun b' u hb hu => (Heap.get?_update_other s.heap (Obj.mapSeq f) (Ne.symm hb)).trans hu) ⟨_, q⟩ ?_
  exact ⟨hz, its', _, hv, q⟩
theorem Inv.lnew {its : List Value} {t' : Nat} (I : Inv X pins σ H s) (hv : Vals ys its) (hz : ys.length ≤ sizeLine) :
    Inv X pins σ (upd H s.heap.objs.size (.lst ys)) { s with heap := s.heap.push { cls := .type "list", data := .seq its.toArray }, toks := t' } :=
  I.laid (fun _ _ q => Heap.get?_push_of_some _ q) (Nat.le_refl _) ⟨hz, its, 0, hv, Heap.get?_push_size _ rfl⟩
theorem Inv.fresh (I : Inv X pins σ H s) : H s.heap.objs.size = none := I.hok.fresh (Nat.le_refl _)
theorem Inv.lstM (I : Inv X pins σ H s) (hH : H l = some (.lst xs)) : xs.length ≤ sizeLine ∧ ∃ (its : List Value) (n : Nat), Vals xs its ∧ xs.length = its.length ∧ s.heap.get? l = some { cls := .type "list", data := .seq its.toArray n } := by
  obtain ⟨z, its, n, r, e⟩ := I.hok l _ hH
  exact ⟨z, its, n, r, r.length, e⟩

theorem notLongL {n : Nat} (h : n ≤ sizeLine) : Builtin.List.listTooLong n = false := by
  unfold Builtin.List.listTooLong
  exact decide_eq_false (by omega)
end

section
variable {X : Cx}

/-! ### methods -/
def rAppend : V → List V → Hp → VK → Prop := fun x vs H Q => ∃ l xs y, x = .ref l ∧ vs = [y] ∧ H l = some (.lst xs) ∧ xs.length < sizeLine ∧ Q .non (upd H l (.lst (xs ++ [y])))
theorem mt_append : MtM X "list.append" rAppend := by
  intro pins s σ H x vs v us Q I rx rv h
  obtain ⟨l, xs, y, rfl, rfl, hH, hz, q⟩ := h
  cases rx
  obtain ⟨u, rfl, ru⟩ := rv.one
  obtain ⟨z, its, n, r, hl, e⟩ := I.lstM hH
  refine call_meets F.slot_list_append ⟨_, e, rfl⟩ F.entry_list_append (F.args_list_append_2 _ _) (PySem.list_append l its.toArray n u (by rw [List.size_toArray]; omega)) ⟨e, ?_⟩
  refine ⟨.non, _, I.lset (its' := its ++ [u]) hH e (by simp) (r.append (.cons ru .nil)) ?_, rfl, q⟩
  rw [List.length_append, List.length_singleton]
  omega

def rExtend : V → List V → Hp → VK → Prop := fun x vs H Q => ∃ l b xs zs, x = .ref l ∧ vs = [.ref b] ∧ H l = some (.lst xs) ∧ H b = some (.lst zs) ∧ xs.length + zs.length ≤ sizeLine ∧ Q .non (upd H l (.lst (xs ++ zs)))
theorem mt_extend : MtM X "list.extend" rExtend := by
  intro pins s σ H x vs v us Q I rx rv h
  obtain ⟨l, b, xs, zs, rfl, rfl, hH, hB, hz, q⟩ := h
  cases rx
  obtain ⟨u, rfl, ru⟩ := rv.one
  cases ru
  obtain ⟨z, its, n, r, hl, e⟩ := I.lstM hH
  obtain ⟨z2, its2, n2, r2, hl2, e2⟩ := I.lstM hB
  have hsz : its.toArray.size + its2.toArray.size ≤ sizeLine := by rw [List.size_toArray, List.size_toArray]; omega
  have hlong : ¬ (!its.toArray.isEmpty && Builtin.List.listTooLong (its.toArray.size + its2.toArray.size)) = true := by
    rw [notLongL hsz, Bool.and_false]
    exact Bool.false_ne_true
  refine call_meets F.slot_list_extend ⟨_, e, rfl⟩ F.entry_list_extend (F.args_list_extend_2 _ _)
    (AutoSeq1.list_extend_list_list_0 l its.toArray n b its2.toArray n2 hlong (by rw [List.size_toArray]; omega) (by omega)) ⟨e, e2, ?_⟩
  refine ⟨.non, _, I.lset (its' := its ++ its2) hH e (by simp) (r.append r2) ?_, rfl, q⟩
  rw [List.length_append]
  omega





/-! ### list + list, list += list, list * int -/
def rCat : R2 := fun x y H Q => ∃ l b xs zs, x = .ref l ∧ y = .ref b ∧ H l = some (.lst xs) ∧ H b = some (.lst zs) ∧ xs.length + zs.length ≤ sizeLine ∧ ∀ p, H p = none → Q (.ref p) (upd H p (.lst (xs ++ zs)))
theorem op_cat : OpR X (binaryOp .Add) rCat := by
  intro pins s σ H x y v u Q I rx ry h
  obtain ⟨l, b, xs, zs, rfl, rfl, hH, hB, hz, q⟩ := h
  cases rx
  cases ry
  obtain ⟨z, its, n, r, hl, e⟩ := I.lstM hH
  obtain ⟨z2, its2, n2, r2, hl2, e2⟩ := I.lstM hB
  refine PySem.P.add_list e e2 ?_ (by rw [List.size_toArray, List.size_toArray]; omega)
  have ea : its.toArray ++ its2.toArray = (its ++ its2).toArray := by simp
  rw [ea]
  exact ⟨.ref _, _, I.lnew (t' := s.toks) (r.append r2) (by rw [List.length_append]; omega), rfl, q _ I.fresh⟩

/-! ### del xs[i] -/
end

/-! ### xs[a:b] = ys -/
section
variable {prog : Program} {w : World} {A : Around} {E : Value → Shared → Prop} {s : Shared}
set_option maxRecDepth 100000 in
end

section
variable {X : Cx}
end
end L2

namespace Att
open PySem PySem.W PySem.Calls PyProof.Rows

/-! ### the script -/
theorem ints_of_wellAll {P : Params} {h : Heap} : ∀ (ns : List Int) (vs : List Value), WellAll P h vs (ns.map WData.int) → IntsAre vs ns := by
  intro ns
  induction ns with
  | nil =>
    intro vs w
    rw [List.map_nil] at w
    cases w
    exact .nil
  | cons n ns ih =>
    intro vs w
    rw [List.map_cons] at w
    cases w with
    | cons a b =>
      cases a
      exact .cons _ _ (ih _ b)

theorem script_of {l : OpenLaw} {n : Nat} (hn : l.most = some n) {P : Params} {h : Heap} {args : List WData} {vals : List Value}
    (hpre : l.row.toRowW.claim.pre args = true) (hwl : WellAll P h vals args) :
    ∃ a vs ns, vals = [Value.ref a] ∧ args = [WData.list (ns.map WData.int)] ∧ h.get? a = some { cls := .type "list", data := .seq vs.toArray } ∧ IntsAre vs ns ∧ ns.length ≤ n := by
  have hsh : WShape.hasAll [] args [.list .int] = true := (pre_splitW hpre).1
  have hc : l.pre.holds [] { args := args } = true := (pre_splitW hpre).2
  obtain ⟨d, r, rfl, h1, h2⟩ := hasAllW_cons hsh
  obtain rfl := hasAllW_nil h2
  obtain ⟨xs, rfl, h3⟩ := hasW_list h1
  obtain ⟨ns, rfl⟩ := items_int h3
  have hlen : ns.length ≤ n := by
    unfold OpenLaw.pre at hc
    have h4 : (WTm.not (.lt (.lit (.int (n : Int))) (.len (.arg 0)))).holds [] { args := [.list (ns.map .int)] } = true := by
      have h4 := (holds_andW hc).1
      rw [hn] at h4
      exact h4
    have h5 := condW_of h4 (w_not (w_lt w_lit (w_len_list (w_arg rfl))))
    rw [List.length_map] at h5
    refine Nat.le_of_not_lt fun q => ?_
    have q' : (n : Int) < ((ns.length : Nat) : Int) := by omega
    first
      | (rw [decide_eq_true q'] at h5; exact absurd h5 (by decide))
      | (simp at h5; omega)
  cases hwl with
  | cons w1 w2 =>
    cases w2
    cases w1 with
    | list ho hall => exact ⟨_, _, ns, rfl, rfl, ho, ints_of_wellAll ns _ hall, hlen⟩

theorem post_true (l : OpenLaw) (args : List WData) : l.row.toRowW.claim.post args (.bool true) args = true :=
  postW_of (r := l.row.toRowW) (X := (true == true))
    (show WShape.has [] (.bool true) .bool = true by first | rfl | decide | simp [WShape.has, WShape.arms, WShape.armsAll])
    (show (WTm.eq .res (.lit (.bool true))).value [] { args := args, res := some (.bool true), after := args } = some (.bool (true == true)) from w_eq_bool (w_res rfl) w_lit) rfl

/-! ### the attachment: holds_open's last premise (the goal 'hc' behind k_head) from a wpAny of the law's body -/

/-- the same from a codeAny of the CALL (for a layer whose function contracts speak of calls) -/
theorem attach_call {l : OpenLaw} {n : Nat} {q : Program} {loose : List Str} {XP : (Str → Option Value) → Heap → Prop} {YP : World → Heap → Prop} {d : DefRec}
    (hn : l.most = some n) (hdf : d.params.defaults = [])
    (call : ∀ (w : World) (s₀ s₁ : Shared) (mg mb : Str → Option Value) (fa : Addr) (o : Obj) (pm cd doc : Value) (a : Addr) (vs : List Value) (ns : List Int),
      Ground q loose [] XP w s₀ mg mb s₁.heap → YP w s₁.heap →
      s₁.heap.get? fa = some o → o.data = .func (docDef d.name d.params d.body d.scope pm cd doc) → s₁.heap.CodeRec cd d.name → mg d.name = some (.ref fa) →
      s₁.heap.get? a = some { cls := .type "list", data := .seq vs.toArray } → IntsAre vs ns → ns.length ≤ n → s₁.gens = #[] →
      codeAny (model l.prog w) callerA (.call (.ref fa) ⟨[.ref a], []⟩) (fun r s' => r = .ok (.ret (.bool true)) ∧ OldK s₁.heap s'.heap ∧ s'.os = s₁.os ∧ AllBare s'.gens) s₁) :
    WalkO q loose XP YP l.row.toRowW d [] (fun f vs => PySem.call f vs) := by
  intro w s₀ s₁ mg mb G Y fa o pm cd doc dV kV ho hd hcd hD hmg hg args vals as hpre hlay hrd hwl hlo
  obtain rfl : dV = .none := Dflts.none hD hdf
  obtain rfl : kV = .none := Dflts.noKw hD
  obtain ⟨a, vs, ns, rfl, rfl, hobj, hints, hlen⟩ := script_of hn hpre hwl
  refine enter_call (codeAny_mono (call w s₀ s₁ mg mb fa o pm cd doc a vs ns G Y ho (fd_plain hd) hcd hmg hobj hints hlen hg) fun r s' hq => ?_)
  obtain ⟨rfl, h2, h3, h4⟩ := hq
  exact ⟨.inl ⟨.bool true, .bool true, [], rfl, fun _ => rfl, .bool true, post_true l _, fun _ => ⟨List.Pairwise.nil, fun _ hm => (nomatch hm)⟩⟩, h2, h3, h4⟩


/-! ### rules over ANY heap (no ledger) from facts about the written part K: the library's own take a ledger (News) for what they write -/
section
variable {prog : Program} {w : World} {A : Around} {E : Value → Shared → Prop} {s : Shared} {K : Frag}





/-! the whole heap as the ledger: makes every rule that writes through a ledger a rule over any heap -/
def ledger (h : Heap) (L d : Addr) : List (Addr × Obj) := (List.range h.objs.size).filterMap fun a => if a = L ∨ a = d then none else (h.get? a).map fun o => (a, o)

end
end Att

namespace L2
open PySem PySem.Spec PyProof.Rows

theorem vals_ints : ∀ {vs : List Value} {ns : List Int}, IntsAre vs ns → Vals (ns.map V.int) vs
  | _, _, .nil => .nil
  | _, _, .cons n t h => .cons ⟨t, rfl⟩ (vals_ints h)

/-- nothing is tracked but the script, known to the object (or it is an object of the module) -/
def Only (H : Hp) : Prop := ∀ b, H b = none ∨ ∃ o xs, H b = some (.frz o (.lst xs))

/-- THE HEAD: the law's promise, at the heap behind the top. F, the promise of the law's def, may use that base is part of the heap (so K.In base, base.Ns mainGlobals mg stand in Mod) -/
theorem law_call {P : Program} {w : World} {K : PySem.W.Frag} {mg mb : Str → Option Value} {CX : CXT} {k : Nat} {fa a : Addr} {fd : FuncData} {x : Str} {sp : Sp} {s₁ : Shared} {vs : List Value} {ns : List Int}
    (KX : K.In s₁.heap) (hns : s₁.heap.Ns mainGlobals mg) (hb : s₁.heap.Ns builtinsNs mb) (hbb : ∀ x : Str, x ≠ "__name__" → mb x = bootBuiltins x) (hlim : s₁.heap.NoLimit) (hg : s₁.gens = #[])
    (ha : s₁.heap.get? a = some { cls := .type "list", data := .seq vs.toArray }) (hi : IntsAre vs ns) (hl : ns.length ≤ sizeLine) (hr : Room k callerA)
    (F : ∀ base : Heap, K.In base → base.Ns mainGlobals mg → FnOk P w K mg base CX k fa fd [x] sp) (hbind : ∀ (s : Shared) (u : Value), BindsTo s fd ⟨[u], []⟩ [(x, u)])
    (hsp : ∀ H : Hp, Only H → SqL K H a (ns.map V.int) → sp [.ref a] H (fun v _ => v = .bl true) fun _ _ _ => False)
    (hCX : ∀ H e s', CX [] H s₁ (fun _ _ _ => False) e s' → False) :
    codeAny (model P w) callerA (.call (.ref fa) ⟨[.ref a], []⟩) (fun r s' => r = .ok (.ret (.bool true)) ∧ OldK s₁.heap s'.heap ∧ s'.os = s₁.os ∧ AllBare s'.gens) s₁ := by
  have rv := vals_ints hi
  have lenV := hi.length
  -- from an abstract heap in which nothing but the script may be tracked
  have core : ∀ H : Hp, Only H → SqL K H a (ns.map V.int) → HOk P w H s₁.heap → (∀ b, H b ≠ none → b = a) → (H a ≠ none → K.lookup a = none) →
      codeAny (model P w) callerA (.call (.ref fa) ⟨[.ref a], []⟩) (fun r s' => r = .ok (.ret (.bool true)) ∧ OldK s₁.heap s'.heap ∧ s'.os = s₁.os ∧ AllBare s'.gens) s₁ := by
    intro H hO hS hok hA hK
    have base_of : ∀ {b : Addr} {o : Obj}, s₁.heap.get? b = some o → H b = none → (hidT s₁.heap H).get? b = some o := fun e n => hidT_get e n
    have noA : ∀ {b : Addr} {o : Obj} {es : Array DictEntry} {ep : Nat}, s₁.heap.get? b = some o → o.data = .dict es ep → H b = none := fun {b o es ep} e d => by
      cases q : H b with
      | none => rfl
      | some u =>
        have e' : b = a := hA b (by rw [q]; simp)
        subst e'
        rw [ha] at e; cases e
        have d' : Data.seq vs.toArray _ = Data.dict es ep := d
        cases d'
    have nsK : ∀ {b : Addr} {m : Str → Option Value}, s₁.heap.Ns b m → (hidT s₁.heap H).Ns b m := fun {b m} ⟨o, es, ep, e, d, r⟩ => ⟨o, es, ep, base_of e (noA e d), d, r⟩
    have hKb : K.In (hidT s₁.heap H) := fun b o e => base_of (KX b o e) (by
      cases q : H b with
      | none => rfl
      | some u =>
        have e' : b = a := hA b (by rw [q]; simp)
        subst e'
        rw [hK (by rw [q]; simp)] at e; cases e)
    have hM : Mod K mg (hidT s₁.heap H) := ⟨hKb, nsK hns, ⟨mb, nsK hb, hbb⟩, let ⟨mc, h1, h2⟩ := hlim; ⟨mc, nsK h1, h2⟩⟩
    have e0 : Env0 P w K mg (hidT s₁.heap H) callerA [] s₁ H := ⟨rfl, hM, fun b o e => of_hidT e, Nat.le_of_eq (hidT_size _ _), trivial, fun b hb => absurd (show b ∈ ([] : List Addr) from hb) (by simp), hok, .of_eq hg⟩
    refine codeAny_mono ((F _ hKb (nsK hns)).run callerA [] s₁ H ⟨[.ref a], []⟩ [.ref a] [.ref a] _ _ hr e0 (hbind s₁ (.ref a)) (.cons rfl .nil) (hsp H hO hS)) fun r s' h => ?_
    cases r with
    | error e => exact (hCX H e s' h).elim
    | ok fl =>
      cases fl with
      | next => exact False.elim h
      | brk => exact False.elim h
      | cont => exact False.elim h
      | ret u =>
        obtain ⟨v, H', os, bare, un, hok', r', q⟩ := h
        have q' : v = .bl true := q
        subst q'
        obtain rfl : u = Value.bool true := r'
        refine ⟨rfl, OldK.of_keep fun b o e => ?_, os, bare⟩
        cases q : H b with
        | none => exact un.keep b o e q (by intro z; exact absurd (show b ∈ ([] : List Addr) from z) (by simp)) (by simp)
        | some u =>
          rcases hO b with z | ⟨ob, xs, z⟩
          · rw [q] at z; cases z
          · have z2 := un.frzs b ob _ z
            obtain ⟨e1, _⟩ := hok b _ z
            obtain ⟨e2, _⟩ := hok' b _ z2
            rw [e] at e1; cases e1
            exact e2
  cases hk : K.lookup a with
  | some o =>
    -- the script is one of the module's own objects
    have e := KX a o hk
    rw [ha] at e
    cases e
    refine core (fun _ => none) (fun _ => .inl rfl) (.inr ⟨_, vs.toArray, _, hk, rfl, rfl, rfl, by rw [List.size_toArray, lenV]; exact hl, by simpa using rv⟩) (fun b u z => by have z' : (none : Option HO) = some u := z; cases z') (fun b z => absurd rfl z) fun z => absurd rfl z
  | none =>
    refine core (fun b => if b = a then some (.frz { cls := .type "list", data := .seq vs.toArray } (.lst (ns.map V.int))) else none) (fun b => ?_) (.inl (.inr ⟨{ cls := .type "list", data := .seq vs.toArray }, if_pos rfl⟩)) (fun b u z => ?_) (fun b z => ?_) fun _ => hk
    · by_cases hb : b = a
      · exact .inr ⟨_, _, if_pos hb⟩
      · exact .inl (if_neg hb)
    · by_cases hb : b = a
      · have z' := (if_pos hb).symm.trans z
        cases z'
        subst hb
        exact ⟨ha, by rw [List.length_map]; exact hl, vs, _, rv, ha⟩
      · have z' := (if_neg hb).symm.trans z
        cases z'
    · by_cases hb : b = a
      · exact hb
      · exact absurd (if_neg hb) z
end L2

namespace L2
open PySem PySem.Spec PyProof.Rows

abbrev KOf {K : PySem.W.Frag} {h : Heap} (_ : K.In h) : PySem.W.Frag := K

/-- the goal that k_head leaves (case hc), from the law's promise. F gives the function object fd (K's own) once, then the promise over every base -/
theorem walk_of {l : PySem.W.OpenLaw} {n k : Nat} {q : Program} {loose : List Str} {XP : (Str → Option Value) → Heap → Prop} {YP : World → Heap → Prop} {d : DefRec} {K : Params → PySem.W.Frag} {CX : World → CXT} {sp : World → Sp} {x : Str}
    (hn : l.most = some n) (hn2 : n ≤ sizeLine) (hdf : d.params.defaults = []) (hr : Room k callerA)
    (hY : ∀ (w : World) (h : Heap), YP w h → (K w.params).In h)
    (F : ∀ (w : World) (mg : Str → Option Value) (fa : Addr) (h : Heap), (K w.params).In h → h.Ns mainGlobals mg → mg d.name = some (.ref fa) →
      ∃ fd : FuncData, (∀ (s : Shared) (u : Value), BindsTo s fd ⟨[u], []⟩ [(x, u)]) ∧
        ∀ base : Heap, (K w.params).In base → base.Ns mainGlobals mg → FnOk l.prog w (K w.params) mg base (CX w) k fa fd [x] (sp w))
    (hsp : ∀ (w : World) (H : Hp) (a : Addr) (ns : List Int), ns.length ≤ n → Only H → SqL (K w.params) H a (ns.map V.int) → sp w [.ref a] H (fun v _ => v = .bl true) fun _ _ _ => False)
    (hCX : ∀ (w : World) (H : Hp) (s : Shared) (e : Value) (s' : Shared), CX w [] H s (fun _ _ _ => False) e s' → False) :
    PySem.W.WalkO q loose XP YP l.row.toRowW d [] (fun f vs => PySem.call f vs) := by
  refine Att.attach_call hn hdf fun w s₀ s₁ mg mb fa o pm cd doc a vs ns G Y ho hd hcd hmg hobj hints hlen hg => ?_
  have KX := hY w _ Y
  obtain ⟨fd, hb, hF⟩ := F w mg fa _ KX G.T.g hmg
  exact law_call KX G.T.g G.T.b G.T.builtins G.T.nolimit hg hobj hints (Nat.le_trans hlen hn2) hr hF hb (fun H hO hS => hsp w H a ns hlen hO hS) fun H e s' => hCX w H s₁ e s'
end L2

/- THE LAST THEOREM (shape; LID, My.* are yours):
   My.Adr: a structure of the addresses that your layer names (classes, functions); My.Txt K t: a structure (Prop) of the equations over K;
   My.txt_mk : {K} {implicit addresses ..} (e1 : nsIn K mainGlobals "law" = some (some (.ref f))) (e2 : K.lookup f = some ⟨oc, od, .func (fnOf "law" "law" params body scope dV kV doc pm an cdv ct), sl⟩) (e3 : codeIn K cdv "law" = true) .. : ∃ t, My.Txt K t

set_option maxRecDepth 100000 in
set_option maxHeartbeats 0 in
theorem PySem.Challenge.cw_LID_holds : PySem.Challenge.rw_LID.Holds := by
  w_on; o_law; k_head; (case hw => w_witness2)
  k_fill
  refine L2.walk_of (l := PySem.Challenge.rw_LID) (n := 63) (k := 40) (x := "script") (CX := fun w => ..) (sp := fun _ => My.sp_law) rfl (by decide) rfl ⟨rfl, by decide, by decide⟩ (fun w h Y => PySem.W.kIn_of Y) ?F ?S ?C
  case F =>
    intro w mg fa h KX G hmg
    have T : ∃ t, My.Txt (L2.KOf KX) t := by
      dsimp only [L2.KOf]                          -- K must stand as «<heap const> w.params» for k_is
      refine' My.txt_mk ?e1 ?e2 ?e3 ..
      (case e1 => PySem.W.k_is)                    -- in the order: a name -> its address -> its object -> its parts
      (case e2 => PySem.W.k_is)
      ..
    obtain ⟨t, T⟩ := T
    have e0 := hmg.symm.trans (PySem.W.mg_of KX G T.law)
    cases e0                                       -- fa is the law's own address
    exact ⟨_, fun s u => .of_eq rfl, fun base kb nb => My.law_fn T kb nb⟩     -- if «.of_eq rfl» comes too early: refine' ⟨_, ?b, fun base kb nb => My.law_fn T kb nb⟩; exact fun s u => .of_eq rfl
  case S => exact fun w H a ns hl hO hS => ..
  case C => exact ..
(the tactic k_is has no namespace: write k_is) -/

/-! SHORT WORDS over the layer: a def of the text, its body, what a loop and a test want. -/
namespace L2
open PySem PySem.Spec PyProof.Rows

/-! ### the text by places -/
def defArgs (s : Stmt) : Arguments := match s with
  | .FunctionDef _ a _ _ _ _ _ _ _ _ => a
  | _ => { posonlyargs := [], args := [], vararg := none, kwonlyargs := [], kw_defaults := [], kwarg := none, defaults := [] }
def defBody (s : Stmt) : List Stmt := match s with
  | .FunctionDef _ _ b _ _ _ _ _ _ _ => b
  | _ => []
def defScope (s : Stmt) : Scope := match s with
  | .FunctionDef _ _ _ _ _ _ sc _ _ _ => sc
  | _ => { kind := .function, names := [], isGenerator := false, isCoroutine := false }

/-! ### no exception leaves a def -/
abbrev CX0 : CXT := fun _ _ _ _ _ _ => False
abbrev E0 : XK := fun _ _ _ => False

/-! ### a def (or method) of the text as it stands behind the top -/
structure Fun (K : PySem.W.Frag) (x qual : Str) (st : Stmt) (f : Addr) (fd : FuncData) : Prop where
  ex : ∃ (oc : Value) (od : Option Addr) (kV doc pm : Value) (an : Option Addr) (cdv ct : Value) (osl : Array (Option Value)),
    fd = PySem.W.fnOf x qual (defArgs st) (defBody st) (defScope st) .none kV doc pm an cdv ct ∧ K.lookup f = some ⟨oc, od, .func fd, osl⟩ ∧ PySem.W.codeIn K cdv qual = true
  kp : PySem.W.keepIn K (.ref f) = true
section
variable {P : Program} {w : World} {K : PySem.W.Frag} {mg : Str → Option Value} {base : Heap}
/-- THE RULE for a def: its body as a term of rules, and the reading of that term -/
theorem Fun.ok {x qual : Str} {st : Stmt} {f : Addr} {fd : FuncData} {N ps : List Str} {k : Nat} {sp : Sp} (F : Fun K x qual st f fd) (S : FnScope N ps (defScope st)) (len : ∀ vs H Q E, sp vs H Q E → vs.length = ps.length)
    (hbody : ∀ (cdv : Value) (A : Around) (outer : List Env) (s : Shared) (H : Hp) (vs : List V) (Q : VK) (E : XK), Room k (A.deeper (envOfC qual (defScope st) s.heap.objs.size f cdv)) → sp vs H Q E →
      ∃ t, PSs (cxOf CX0 P w K mg base N qual (defScope st) f cdv A outer s H E).nox (defBody st) t ∧ t { nx := fun _ H' => Q .non H', rt := Q } (start N vs) H) : FnOk P w K mg base CX0 (k + 1) f fd ps sp := by
  obtain ⟨oc, od, kV, doc, pm, an, cdv, ct, osl, rfl, lk, hcd⟩ := F.ex
  refine fn_of lk hcd S len fun A outer s H vs Q E hr hsp => ?_
  obtain ⟨t, h, q⟩ := hbody cdv A outer s H vs Q E hr hsp
  exact ⟨t, h.nox, q⟩
/-- how its arguments bind (no defaults): h is «fun _ _ _ _ _ _ us hl => match us, hl with | [_, _], _ => rfl», one _ a parameter -/
theorem Fun.binds {x qual : Str} {st : Stmt} {f : Addr} {fd : FuncData} {ps : List Str} (F : Fun K x qual st f fd)
    (h : ∀ (kV doc pm : Value) (an : Option Addr) (cdv ct : Value) (us : List Value), us.length = ps.length → bindArgs (PySem.W.fnOf x qual (defArgs st) (defBody st) (defScope st) .none kV doc pm an cdv ct) ⟨us, []⟩ = pure (ps.zip us)) : Binds K fd ps [] := by
  obtain ⟨oc, od, kV, doc, pm, an, cdv, ct, osl, rfl, lk, hcd⟩ := F.ex
  exact .all (h kV doc pm an cdv ct)
theorem fun_mk {x qual : Str} {st : Stmt} {f : Addr} {oc : Value} {od an : Option Addr} {osl : Array (Option Value)} {kV doc pm cdv ct : Value} (l : K.lookup f = some ⟨oc, od, .func (PySem.W.fnOf x qual (defArgs st) (defBody st) (defScope st) .none kV doc pm an cdv ct), osl⟩)
    (c : PySem.W.codeIn K cdv qual = true) (k : PySem.W.keepIn K (.ref f) = true) : Fun K x qual st f (PySem.W.fnOf x qual (defArgs st) (defBody st) (defScope st) .none kV doc pm an cdv ct) := ⟨⟨oc, od, kV, doc, pm, an, cdv, ct, osl, rfl, l, c⟩, k⟩
end
theorem small1000 {n : Nat} (h : n ≤ 1000) : n < sizeLine := Nat.lt_of_le_of_lt h (by decide)

/-! ### expressions in short: the name that stands in the i-th slot -/
section
variable {X : Cx}
end

/-! ### tests -/

/-! ### heaps -/
/-- all that was tracked is as it was -/
def Same (H H' : Hp) : Prop := ∀ b o, H b = some o → H' b = some o
theorem Same.refl (H : Hp) : Same H H := fun _ _ h => h
theorem Same.trans {H H1 H2 : Hp} (a : Same H H1) (b : Same H1 H2) : Same H H2 := fun c o h => b c o (a c o h)
theorem Same.free {H H' : Hp} (e : Same H H') {l : Addr} (h : H' l = Option.none) : H l = Option.none := by
  cases q : H l with
  | none => rfl
  | some o =>
    rw [e l o q] at h
    cases h
theorem Same.seq {K : PySem.W.Frag} {H H' : Hp} {a : Addr} {xs : List V} (e : Same H H') (h : SqL K H a xs) : SqL K H' a xs := by
  rcases h with (h | ⟨o, h⟩) | h
  · exact .inl (.inl (e _ _ h))
  · exact .inl (.inr ⟨o, e _ _ h⟩)
  · exact .inr h

end L2

/-! A LAYER OF DATA over the hand layer: values without addresses (tuples, and lists, dicts, instances that nobody changes any more, are data), a store of what changes, each rule as a plain function. -/
namespace L4
open PySem PySem.Spec PyProof.Rows L2
/-! a thing that the kernel does not open -/
theorem hide_ex {α : Type} (a : α) : ∃ b, b = a := ⟨a, rfl⟩
noncomputable def hide {α : Type} (a : α) : α := Classical.choose (hide_ex a)
@[simp] theorem hide_eq {α : Type} (a : α) : hide a = a := Classical.choose_spec (hide_ex a)

/-! ### data, store, outcomes -/
inductive D where
  | non | bl (b : Bool) | int (i : Int) | str (x : Str) | tup (xs : List D) | scr (ns : List Int) | ref (n : Nat)
  | lst (xs : List D) | dic (ks : List Key) (xs : List D) | obj (c : Nat) (ns : List Str) (xs : List D) | exn (c : Nat)
inductive Ob where
  | lst (xs : List D)
  | dic (kvs : List (Key × D))
  | ins (c : Nat) (fs : List (Str × D))
abbrev Sto := List Ob
abbrev St := L2.St
abbrev Ev := List (Option D)
structure Xn where
  cls : Nat
inductive Out (α : Type) where
  | ok (a : α) (σ : Sto)
  | ex (x : Xn) (σ : Sto)
  | bad
abbrev M (α : Type) := Sto → Out α
def ret {α : Type} (a : α) : M α := fun σ => .ok a σ
def bad {α : Type} : M α := fun _ => .bad
def Out.bind {α β : Type} (o : Out α) (k : α → M β) : Out β := match o with
  | .ok a σ' => k a σ'
  | .ex x σ' => .ex x σ'
  | .bad => .bad
def bnd {α β : Type} (m : M α) (k : α → M β) : M β := fun σ => (m σ).bind k
/-- what stands behind a statement -/
inductive Fl where
  | nx (ρ : Ev) | rt (d : D) | bk (ρ : Ev) | ct (ρ : Ev) | xc (ρ : Ev) (x : Xn)

/-- the text's table: its written part, the classes' addresses -/
structure Tb where
  K : PySem.W.Frag
  ca : Nat → Addr
def Tb.cv (T : Tb) (x : Xn) : Value := .ref (T.ca x.cls)
/-- the number that an exception's class code carries -/
def fdN (c : Nat) : Option Nat := if c < 100 then none else some (c / 100 - 1)
/-- an exception that was caught -/
def ExcAt (C a : Addr) : Heap → Prop := fun h => ∃ o, h.get? a = some o ∧ o.cls = .ref C
/-- .. with its dict -/
def ExcAtD (C : Addr) (dd : Option Addr) (a : Addr) : Heap → Prop := fun h => ∃ o, h.get? a = some o ∧ o.cls = .ref C ∧ ∀ dN, dd = some dN → o.dict = some dN ∧ ∃ vs, o.data = .fields vs
def PotAt (dN : Addr) (n : Nat) : Heap → Prop := fun h => ∃ o, h.get? dN = some o ∧ ∃ es ep t, o.data = .dict es ep ∧ StrKeys es ∧ nsFind es "pot" = some (.int n t)

/-! ### how data lie in the heap -/
def Scr (K : PySem.W.Frag) (H : Hp) (a : Addr) (ns : List Int) : Prop :=
  (∃ o, H a = some (.frz o (.lst (ns.map V.int)))) ∨
    ∃ (o : Obj) (its : Array Value) (n : Nat), K.lookup a = some o ∧ o.cls = .type "list" ∧ o.dict = none ∧ o.data = .seq its n ∧ its.size ≤ sizeLine ∧ Vals (ns.map V.int) its.toList
theorem Scr.seq {K : PySem.W.Frag} {H : Hp} {a : Addr} {ns : List Int} (h : Scr K H a ns) : SqL K H a (ns.map V.int) := by
  rcases h with ⟨o, h⟩ | h
  · exact .inl (.inr ⟨o, h⟩)
  · exact .inr h
mutual
def Rep (T : Tb) (μ : List Addr) (H : Hp) : D → V → Prop
  | .non, v => v = .non
  | .bl b, v => v = .bl b
  | .int i, v => v = .int i
  | .str x, v => v = .str x
  | .tup ds, v => ∃ p vs, v = .ref p ∧ H p = some (.tup vs) ∧ RepL T μ H ds vs
  | .scr ns, v => ∃ a, v = .ref a ∧ Scr T.K H a ns
  | .ref n, v => ∃ a, v = .ref a ∧ μ[n]? = some a
  | .lst ds, v => ∃ a vs, v = .ref a ∧ a ∉ μ ∧ H a = some (.lst vs) ∧ RepL T μ H ds vs
  | .dic ks ds, v => ∃ a kvs, v = .ref a ∧ a ∉ μ ∧ H a = some (.dK kvs) ∧ kvs.map (·.1) = ks ∧ RepL T μ H ds (kvs.map (·.2))
  | .obj c ns ds, v => ∃ a dx fs, v = .ref a ∧ a ∉ μ ∧ H a = some (.ins (T.ca c) dx fs) ∧ fs.map (·.1) = ns ∧ RepL T μ H ds (fs.map (·.2))
  | .exn c, v => ∃ a dd, v = .ref a ∧ a ∉ μ ∧ H a = some (.ext (ExcAtD (T.ca c) dd a)) ∧ ∀ n, fdN c = some n → ∃ dN, dd = some dN ∧ dN ∉ μ ∧ H dN = some (.ext (PotAt dN n))
def RepL (T : Tb) (μ : List Addr) (H : Hp) : List D → List V → Prop
  | [], vs => vs = []
  | d :: ds, vs => ∃ v r, vs = v :: r ∧ Rep T μ H d v ∧ RepL T μ H ds r
end
structure Ext (μ : List Addr) (H : Hp) (μ' : List Addr) (H' : Hp) : Prop where
  pre : ∃ r, μ' = μ ++ r
  tup : ∀ p xs, H p = some (.tup xs) → H' p = some (.tup xs)
  frz : ∀ p o u, H p = some (.frz o u) → H' p = some (.frz o u)
  keep : ∀ p o, H p = some o → p ∉ μ → H' p = some o ∧ p ∉ μ'
theorem Ext.refl (μ : List Addr) (H : Hp) : Ext μ H μ H := ⟨⟨[], by simp⟩, fun _ _ h => h, fun _ _ _ h => h, fun _ _ h n => ⟨h, n⟩⟩
theorem Ext.trans {μ μ1 μ2 : List Addr} {H H1 H2 : Hp} (a : Ext μ H μ1 H1) (b : Ext μ1 H1 μ2 H2) : Ext μ H μ2 H2 := by
  obtain ⟨⟨r, rfl⟩, t1, f1, k1⟩ := a
  obtain ⟨⟨r', rfl⟩, t2, f2, k2⟩ := b
  exact ⟨⟨r ++ r', by simp⟩, fun p xs h => t2 p xs (t1 p xs h), fun p o u h => f2 p o u (f1 p o u h), fun p o h n => k2 p o (k1 p o h n).1 (k1 p o h n).2⟩
theorem Ext.get {μ μ' : List Addr} {H H' : Hp} (e : Ext μ H μ' H') {n : Nat} {a : Addr} (h : μ[n]? = some a) : μ'[n]? = some a := by
  obtain ⟨⟨r, rfl⟩, _, _⟩ := e
  rw [List.getElem?_append_left (List.getElem?_eq_some_iff.mp h).1]; exact h
mutual
theorem Rep.mono {T : Tb} {μ μ' : List Addr} {H H' : Hp} (e : Ext μ H μ' H') : ∀ (d : D) (v : V), Rep T μ H d v → Rep T μ' H' d v
  | .non, v, h => by simpa [Rep] using h
  | .bl b, v, h => by simpa [Rep] using h
  | .int i, v, h => by simpa [Rep] using h
  | .str x, v, h => by simpa [Rep] using h
  | .tup ds, v, h => by
    rw [Rep] at h ⊢
    obtain ⟨p, vs, h1, h2, h3⟩ := h
    exact ⟨p, vs, h1, e.tup _ _ h2, RepL.mono e ds vs h3⟩
  | .scr ns, v, h => by
    rw [Rep] at h ⊢
    obtain ⟨a, h1, h2⟩ := h
    refine ⟨a, h1, ?_⟩
    rcases h2 with ⟨o, h2⟩ | h2
    · exact .inl ⟨o, e.frz _ _ _ h2⟩
    · exact .inr h2
  | .ref n, v, h => by
    rw [Rep] at h ⊢
    obtain ⟨a, h1, h2⟩ := h
    exact ⟨a, h1, e.get h2⟩
  | .lst ds, v, h => by
    rw [Rep] at h ⊢
    obtain ⟨a, vs, h1, h2, h3, h4⟩ := h
    exact ⟨a, vs, h1, (e.keep _ _ h3 h2).2, (e.keep _ _ h3 h2).1, RepL.mono e ds vs h4⟩
  | .dic ks ds, v, h => by
    rw [Rep] at h ⊢
    obtain ⟨a, vs, h1, h2, h3, h5, h4⟩ := h
    exact ⟨a, vs, h1, (e.keep _ _ h3 h2).2, (e.keep _ _ h3 h2).1, h5, RepL.mono e ds _ h4⟩
  | .obj c ns ds, v, h => by
    rw [Rep] at h ⊢
    obtain ⟨a, dx, vs, h1, h2, h3, h5, h4⟩ := h
    exact ⟨a, dx, vs, h1, (e.keep _ _ h3 h2).2, (e.keep _ _ h3 h2).1, h5, RepL.mono e ds _ h4⟩
  | .exn c, v, h => by
    rw [Rep] at h ⊢
    obtain ⟨a, dd, h1, h2, h3, h4⟩ := h
    exact ⟨a, dd, h1, (e.keep _ _ h3 h2).2, (e.keep _ _ h3 h2).1, fun n q => let ⟨dN, q1, q2, q3⟩ := h4 n q; ⟨dN, q1, (e.keep _ _ q3 q2).2, (e.keep _ _ q3 q2).1⟩⟩
theorem RepL.mono {T : Tb} {μ μ' : List Addr} {H H' : Hp} (e : Ext μ H μ' H') : ∀ (ds : List D) (vs : List V), RepL T μ H ds vs → RepL T μ' H' ds vs
  | [], vs, h => by simpa [RepL] using h
  | d :: ds, vs, h => by
    rw [RepL] at h ⊢
    obtain ⟨v, r, h1, h2, h3⟩ := h
    exact ⟨v, r, h1, Rep.mono e d v h2, RepL.mono e ds r h3⟩
end
theorem RepL.nil {T : Tb} {μ : List Addr} {H : Hp} : RepL T μ H [] [] := by rw [RepL]
theorem RepL.cons {T : Tb} {μ : List Addr} {H : Hp} {d : D} {v : V} {ds : List D} {vs : List V} (h1 : Rep T μ H d v) (h2 : RepL T μ H ds vs) : RepL T μ H (d :: ds) (v :: vs) := by
  rw [RepL]; exact ⟨v, vs, rfl, h1, h2⟩
theorem RepL.length {T : Tb} {μ : List Addr} {H : Hp} : ∀ {ds : List D} {vs : List V}, RepL T μ H ds vs → ds.length = vs.length
  | [], vs, h => by rw [RepL] at h; subst h; rfl
  | d :: ds, vs, h => by
    rw [RepL] at h
    obtain ⟨v, r, rfl, _, h3⟩ := h
    simp [RepL.length h3]
theorem RepL.get {T : Tb} {μ : List Addr} {H : Hp} : ∀ {ds : List D} {vs : List V} {i : Nat} {d : D}, RepL T μ H ds vs → ds[i]? = some d → ∃ v, vs[i]? = some v ∧ Rep T μ H d v
  | [], vs, i, d, h, e => by simp at e
  | d :: ds, vs, 0, x, h, e => by
    rw [RepL] at h
    obtain ⟨v, r, rfl, h2, h3⟩ := h
    simp at e; subst e
    exact ⟨v, rfl, h2⟩
  | d :: ds, vs, i + 1, x, h, e => by
    rw [RepL] at h
    obtain ⟨v, r, rfl, h2, h3⟩ := h
    simpa using RepL.get (i := i) h3 (by simpa using e)
theorem RepL.append {T : Tb} {μ : List Addr} {H : Hp} : ∀ {ds es : List D} {vs us : List V}, RepL T μ H ds vs → RepL T μ H es us → RepL T μ H (ds ++ es) (vs ++ us)
  | [], es, vs, us, h, h' => by rw [RepL] at h; subst h; simpa using h'
  | d :: ds, es, vs, us, h, h' => by
    rw [RepL] at h
    obtain ⟨v, r, rfl, h2, h3⟩ := h
    exact RepL.cons h2 (RepL.append h3 h')
theorem RepL.set {T : Tb} {μ : List Addr} {H : Hp} {d : D} {v : V} (hd : Rep T μ H d v) : ∀ {ds : List D} {vs : List V} (i : Nat), RepL T μ H ds vs → RepL T μ H (ds.set i d) (vs.set i v)
  | [], vs, i, h => by rw [RepL] at h; subst h; simpa using RepL.nil
  | x :: ds, vs, 0, h => by
    rw [RepL] at h
    obtain ⟨w, r, rfl, h2, h3⟩ := h
    exact RepL.cons hd h3
  | x :: ds, vs, i + 1, h => by
    rw [RepL] at h
    obtain ⟨w, r, rfl, h2, h3⟩ := h
    exact RepL.cons h2 (RepL.set hd i h3)
theorem RepL.drop {T : Tb} {μ : List Addr} {H : Hp} : ∀ {ds : List D} {vs : List V} (n : Nat), RepL T μ H ds vs → RepL T μ H (ds.drop n) (vs.drop n)
  | ds, vs, 0, h => by simpa using h
  | [], vs, n + 1, h => by rw [RepL] at h; subst h; simpa using RepL.nil
  | x :: ds, vs, n + 1, h => by
    rw [RepL] at h
    obtain ⟨w, r, rfl, h2, h3⟩ := h
    simpa using RepL.drop n h3
theorem RepL.take {T : Tb} {μ : List Addr} {H : Hp} : ∀ {ds : List D} {vs : List V} (n : Nat), RepL T μ H ds vs → RepL T μ H (ds.take n) (vs.take n)
  | ds, vs, 0, h => by simpa using RepL.nil
  | [], vs, n + 1, h => by rw [RepL] at h; subst h; simpa using RepL.nil
  | x :: ds, vs, n + 1, h => by
    rw [RepL] at h
    obtain ⟨w, r, rfl, h2, h3⟩ := h
    exact RepL.cons h2 (RepL.take n h3)

/-- the store -/
def RepF (T : Tb) (μ : List Addr) (H : Hp) : List (Str × D) → List (Str × V) → Prop := Paired fun p q => p.1 = q.1 ∧ Rep T μ H p.2 q.2
def RepK (T : Tb) (μ : List Addr) (H : Hp) : List (Key × D) → List (Key × V) → Prop := Paired fun p q => p.1 = q.1 ∧ Rep T μ H p.2 q.2
def ObR (T : Tb) (μ : List Addr) (H : Hp) (a : Addr) : Ob → Prop
  | .lst ds => ∃ vs, H a = some (.lst vs) ∧ RepL T μ H ds vs
  | .dic kvs => ∃ vs, H a = some (.dK vs) ∧ RepK T μ H kvs vs
  | .ins c fs => ∃ dx vs, H a = some (.ins (T.ca c) dx vs) ∧ RepF T μ H fs vs
structure Rel (T : Tb) (μ : List Addr) (H : Hp) (σ : Sto) : Prop where
  len : μ.length = σ.length
  nd : μ.Nodup
  obs : ∀ (n : Nat) (o : Ob), σ[n]? = some o → ∃ a, μ[n]? = some a ∧ ObR T μ H a o
def ERep (T : Tb) (μ : List Addr) (H : Hp) (ρ : Ev) (st : St) : Prop := ρ.length = st.length ∧ ∀ (i : Nat) (d : D), ρ[i]? = some (some d) → ∃ v, st[i]? = some (some v) ∧ Rep T μ H d v
theorem ERep.mono {T : Tb} {μ μ' : List Addr} {H H' : Hp} {ρ : Ev} {st : St} (e : Ext μ H μ' H') (h : ERep T μ H ρ st) : ERep T μ' H' ρ st :=
  ⟨h.1, fun i d q => let ⟨v, h1, h2⟩ := h.2 i d q; ⟨v, h1, Rep.mono e d v h2⟩⟩
theorem ERep.set {T : Tb} {μ : List Addr} {H : Hp} {ρ : Ev} {st : St} {d : D} {v : V} (h : ERep T μ H ρ st) (i : Nat) (r : Rep T μ H d v) : ERep T μ H (ρ.set i (some d)) (st.set i (some v)) := by
  refine ⟨by simpa using h.1, fun j x q => ?_⟩
  rw [List.getElem?_set] at q
  by_cases hj : i = j
  · subst hj
    rw [if_pos rfl] at q
    split at q
    · rename_i hl
      cases q
      exact ⟨v, by rw [List.getElem?_set, if_pos rfl, if_pos (by rw [← h.1]; exact hl)], r⟩
    · cases q
  · rw [if_neg hj] at q
    obtain ⟨w, h1, h2⟩ := h.2 j x q
    exact ⟨w, by rw [List.getElem?_set, if_neg hj]; exact h1, h2⟩

/-! ### an exception that has left a callee; one that was made here -/
/-- no frame has noted it yet -/
def Unt (e : Addr) (cls a0 : Value) (h : Heap) : Prop := ∃ oe vs, h.get? e = some oe ∧ oe.cls = cls ∧ oe.data = .fields vs ∧ 1 < vs.size ∧ vs[0]? = some a0 ∧ vs[1]? = some .none
/-- it flies, whatever frame has noted it last -/
def FlyM (B : Heap) (l : List Env) (e : Addr) (cls a0 : Value) (h : Heap) : Prop := B.StaysIn h ∧ B.get? e = none ∧ h.FunFrames B l ∧ ((∃ fl, h.TracedAtW B e cls a0 fl) ∨ Unt e cls a0 h)
/-- a dict with a number under pot -/
def PotO (o : Obj) (n : Nat) : Prop := ∃ es ep t, o.data = .dict es ep ∧ StrKeys es ∧ nsFind es "pot" = some (.int n t)
def FdH (fd : Option Nat) (e : Addr) (B h h0 : Heap) (H' : Hp) : Prop := ∀ n, fd = some n → ∃ dN oD oe, h.get? e = some oe ∧ oe.dict = some dN ∧ B.get? dN = some oD ∧ PotO oD n ∧ H' dN = none ∧ h0.get? dN = none
structure Fly (P : Program) (w : World) (outer : List Env) (H : Hp) (s : Shared) (cls : Value) (fd : Option Nat) (H' : Hp) (e : Value) (s' : Shared) : Prop where
  ex : ∃ (ea : Addr) (a0 : Value) (B : Heap), e = .ref ea ∧ FlyM B outer ea cls a0 s'.heap ∧ H' ea = none ∧ s.heap.get? ea = none ∧
    (∀ b o, H' b = some o → ∃ ob, B.get? b = some ob) ∧ (∀ b o, s.heap.get? b = some o → H b = none → b ∉ frs outer → B.get? b = some o) ∧ (∀ b o, s.heap.get? b = some o → b ∉ frs outer → ∃ o', B.get? b = some o') ∧ FdH fd ea B s'.heap s.heap H'
  os : s'.os = s.os
  bare : AllBare s'.gens
  un : Un (frs outer) [] H H' s.heap s'.heap
  hok : HOk P w H' s'.heap
def CXE (P : Program) (w : World) : CXT := fun outer H s E e s' => ∃ cls fd H', Fly P w outer H s cls fd H' e s' ∧ E cls fd H'
structure Thr (X : Cx) (st : St) (cls : Value) (fd : Option Nat) (H' : Hp) : Prop where
  fly : ∀ (pins : List (Addr × Obj)) (H : Hp) (s : Shared) (e : Value) (s' : Shared), Inv X pins st H s → Fly X.prog X.w X.stack H s cls fd H' e s' → X.xe e s'
abbrev XE (X : Cx) (st : St) : XK := fun cls fd H' => Thr X st cls fd H'

/-! ### what is wanted behind an outcome -/
def Post {α γ : Type} (T : Tb) (E : XK) (R : List Addr → Hp → α → γ → Prop) (μ : List Addr) (H : Hp) (o : Out α) (Q : γ → Hp → Prop) : Prop := match o with
  | .ok a σ => ∀ μ' g H', Ext μ H μ' H' → Rel T μ' H' σ → R μ' H' a g → Q g H'
  | .ex x σ => ∀ μ' H', Ext μ H μ' H' → Rel T μ' H' σ → E (T.cv x) (fdN x.cls) H'
  | .bad => False
theorem Post.mono {α γ : Type} {T : Tb} {E : XK} {R : List Addr → Hp → α → γ → Prop} {μ μ1 : List Addr} {H H1 : Hp} {o : Out α} {Q : γ → Hp → Prop} (e : Ext μ H μ1 H1) (h : Post T E R μ H o Q) : Post T E R μ1 H1 o Q := by
  cases o with
  | ok a σ => exact fun μ' g H' e' r q => h μ' g H' (e.trans e') r q
  | ex x σ => exact fun μ' H' e' r => h μ' H' (e.trans e') r
  | bad => exact h
theorem Post.imp {α γ : Type} {T : Tb} {E : XK} {R : List Addr → Hp → α → γ → Prop} {μ : List Addr} {H : Hp} {o : Out α} {Q Q' : γ → Hp → Prop} (h : Post T E R μ H o Q) (k : ∀ g H', Q g H' → Q' g H') : Post T E R μ H o Q' := by
  cases o with
  | ok a σ => exact fun μ' g H' e' r q => k _ _ (h μ' g H' e' r q)
  | ex x σ => exact h
  | bad => exact h
/-- a step, then the rest -/
theorem Post.bind {α β γ δ : Type} {T : Tb} {E : XK} {R : List Addr → Hp → α → γ → Prop} {R' : List Addr → Hp → β → δ → Prop} {μ : List Addr} {H : Hp} {m : M α} {k : α → M β} {σ : Sto} {Q : δ → Hp → Prop} {Q1 : γ → Hp → Prop}
    (h : Post T E R' μ H (bnd m k σ) Q) (f : ∀ a σ1 μ1 g H1, m σ = .ok a σ1 → Ext μ H μ1 H1 → Rel T μ1 H1 σ1 → R μ1 H1 a g → Post T E R' μ1 H1 (k a σ1) Q → Q1 g H1) : Post T E R μ H (m σ) Q1 := by
  unfold bnd at h
  cases e : m σ with
  | ok a σ1 =>
    rw [e] at h
    exact fun μ' g H' e' r q => f a σ1 μ' g H' e e' r q (h.mono e')
  | ex x σ1 => rw [e] at h; exact h
  | bad => rw [e] at h; exact h
theorem Post.here {T : Tb} {E : XK} {α γ : Type} {R : List Addr → Hp → α → γ → Prop} {μ : List Addr} {H : Hp} {d : α} {σ : Sto} {g : γ} {Q : γ → Hp → Prop} (h : Post T E R μ H (.ok d σ) Q) (r : Rel T μ H σ) (p : R μ H d g) : Q g H := h μ g H (Ext.refl _ _) r p

/-! ### the readings -/
section
variable (T : Tb) (X : Cx)
def tF (f : Ev → M D) : TE := fun st H Q => ∃ μ ρ σ, ERep T μ H ρ st ∧ Rel T μ H σ ∧ Post T (XE X st) (Rep T) μ H (f ρ σ) Q
def RBool : List Addr → Hp → Bool → Bool → Prop := fun _ _ a b => b = a
def tT (f : Ev → M Bool) : TT := fun st H Q => ∃ μ ρ σ, ERep T μ H ρ st ∧ Rel T μ H σ ∧ Post T (XE X st) RBool μ H (f ρ σ) Q
def tL (f : Ev → M (List D)) : TA := fun st H Q => ∃ μ ρ σ, ERep T μ H ρ st ∧ Rel T μ H σ ∧ Post T (XE X st) (RepL T) μ H (f ρ σ) Q
/-- the ends of a statement -/
inductive Gl2 where
  | nx (st : St) | rt (v : V) | bk (st : St) | ct (st : St) | xc (st : St) (cls : Value) (fd : Option Nat)
def RFl (T : Tb) (μ : List Addr) (H : Hp) : Fl → Gl2 → Prop
  | .nx ρ, .nx st => ERep T μ H ρ st
  | .rt d, .rt v => Rep T μ H d v
  | .bk ρ, .bk st => ERep T μ H ρ st
  | .ct ρ, .ct st => ERep T μ H ρ st
  | .xc ρ x, .xc st cls fd => ERep T μ H ρ st ∧ cls = T.cv x ∧ fd = fdN x.cls
  | _, _ => False
def EndQ (X : Cx) (D : Ends) : Gl2 → Hp → Prop
  | .nx st, H => D.nx st H
  | .rt v, H => D.rt v H
  | .bk st, H => D.bk st H
  | .ct st, H => D.ct st H
  | .xc st cls fd, H => Thr X st cls fd H
abbrev EN : XK := fun _ _ _ => False
def tS (g : Ev → M Fl) : TS := fun D st H => ∃ μ ρ σ, ERep T μ H ρ st ∧ Rel T μ H σ ∧ Post T EN (RFl T) μ H (g ρ σ) (EndQ X D)
end
/-- an expression within a statement: its exception is the statement's end -/
def xs {α : Type} (ρ : Ev) (m : M α) (k : α → M Fl) : M Fl := fun σ => match m σ with
  | .ok a σ' => k a σ'
  | .ex x σ' => .ok (.xc ρ x) σ'
  | .bad => .bad
theorem Post.xs {α γ : Type} {T : Tb} {X : Cx} {D : Ends} {R : List Addr → Hp → α → γ → Prop} {μ : List Addr} {H : Hp} {ρ : Ev} {st : St} {m : M α} {k : α → M Fl} {σ : Sto} {Q1 : γ → Hp → Prop} (hE : ERep T μ H ρ st)
    (h : Post T EN (RFl T) μ H (L4.xs ρ m k σ) (EndQ X D)) (f : ∀ a σ1 μ1 g H1, m σ = .ok a σ1 → Ext μ H μ1 H1 → Rel T μ1 H1 σ1 → R μ1 H1 a g → Post T EN (RFl T) μ1 H1 (k a σ1) (EndQ X D) → Q1 g H1) : Post T (XE X st) R μ H (m σ) Q1 := by
  unfold L4.xs at h
  cases e : m σ with
  | ok a σ1 =>
    rw [e] at h
    exact fun μ' g H' e' r q => f a σ1 μ' g H' e e' r q (h.mono e')
  | ex x σ1 =>
    rw [e] at h
    intro μ' H' e' r
    exact h μ' (.xc st (T.cv x) (fdN x.cls)) H' e' r ⟨hE.mono e', rfl, rfl⟩
  | bad => rw [e] at h; exact h
abbrev FE (T : Tb) (X : Cx) (e : Expr) (f : Ev → M D) : Prop := PE X e (tF T X f)
abbrev FT (T : Tb) (X : Cx) (e : Expr) (f : Ev → M Bool) : Prop := PT X e (tT T X f)
abbrev FW (T : Tb) (X : Cx) (e : Expr) (f : Ev → M Bool) : Prop := PW X e (tT T X f)
abbrev FA (T : Tb) (X : Cx) (es : List Expr) (f : Ev → M (List D)) : Prop := PA X es (tL T X f)
abbrev FS (T : Tb) (X : Cx) (st : Stmt) (g : Ev → M Fl) : Prop := PS X st (tS T X g)
abbrev FSs (T : Tb) (X : Cx) (st : List Stmt) (g : Ev → M Fl) : Prop := PSs X st (tS T X g)
end L4

namespace L4
open PySem PySem.Spec PyProof.Rows L2

def cap : Nat := 1000
theorem cap_le {n : Nat} (h : n ≤ cap) : n ≤ sizeLine := Nat.le_of_lt (small1000 h)
theorem cap_lt {n : Nat} (h : n < cap) : n < sizeLine := small1000 (Nat.le_of_lt h)

theorem nodup_at {α : Type} {l : List α} (h : l.Nodup) {i j : Nat} {a : α} (hi : l[i]? = some a) (hj : l[j]? = some a) : i = j := by
  obtain ⟨q1, q2⟩ := List.getElem?_eq_some_iff.mp hi
  obtain ⟨q3, q4⟩ := List.getElem?_eq_some_iff.mp hj
  have hp := List.pairwise_iff_getElem.mp h
  rcases Nat.lt_trichotomy i j with z | z | z
  · exact absurd (q2.trans q4.symm) (hp i j q1 q3 z)
  · exact z
  · exact absurd (q4.trans q2.symm) (hp j i q3 q1 z)
/-! ### the store keeps -/
section
variable {T : Tb} {μ μ' : List Addr} {H H' : Hp} {σ : Sto}
theorem paired_mono {α : Type} (e : Ext μ H μ' H') {xs : List (α × D)} {ys : List (α × V)} (h : Paired (fun (p : α × D) (q : α × V) => p.1 = q.1 ∧ Rep T μ H p.2 q.2) xs ys) :
    Paired (fun (p : α × D) (q : α × V) => p.1 = q.1 ∧ Rep T μ' H' p.2 q.2) xs ys := L2.Paired.mapP h fun p q z => ⟨z.1, Rep.mono e _ _ z.2⟩
theorem ObR.mono (e : Ext μ H μ' H') {a : Addr} (ha : H' a = H a) : ∀ {o : Ob}, ObR T μ H a o → ObR T μ' H' a o
  | .lst ds, ⟨vs, h, r⟩ => ⟨vs, ha.trans h, RepL.mono e _ _ r⟩
  | .dic kvs, ⟨vs, h, r⟩ => ⟨vs, ha.trans h, paired_mono e r⟩
  | .ins c fs, ⟨dx, vs, h, r⟩ => ⟨dx, vs, ha.trans h, paired_mono e r⟩
theorem ObR.some {a : Addr} : ∀ {o : Ob}, ObR T μ H a o → ∃ u, H a = Option.some u ∧ (∀ xs, u ≠ .tup xs) ∧ (∀ ob w, u ≠ .frz ob w)
  | .lst ds, ⟨vs, h, r⟩ => ⟨_, h, (fun _ z => by cases z), (fun _ _ z => by cases z)⟩
  | .dic kvs, ⟨vs, h, r⟩ => ⟨_, h, (fun _ z => by cases z), (fun _ _ z => by cases z)⟩
  | .ins c fs, ⟨dx, vs, h, r⟩ => ⟨_, h, (fun _ z => by cases z), (fun _ _ z => by cases z)⟩
theorem Rel.keep (r : Rel T μ H σ) (e : Ext μ H μ H') (k : ∀ a ∈ μ, H' a = H a) : Rel T μ H' σ :=
  ⟨r.len, r.nd, fun n o h => let ⟨a, h1, h2⟩ := r.obs n o h; ⟨a, h1, h2.mono e (k a (List.mem_of_getElem? h1))⟩⟩
theorem Rel.mem (r : Rel T μ H σ) {a : Addr} (h : a ∈ μ) : ∃ u, H a = some u ∧ (∀ xs, u ≠ .tup xs) ∧ (∀ ob w, u ≠ .frz ob w) := by
  obtain ⟨n, hn⟩ := List.getElem?_of_mem h
  have hl : n < σ.length := by rw [← r.len]; exact (List.getElem?_eq_some_iff.mp hn).1
  obtain ⟨a', h1, h2⟩ := r.obs n σ[n] (by simp [hl])
  rw [hn] at h1; cases h1
  exact h2.some
/-- a new thing that is not of the store -/
theorem ext_new {p : Addr} {o : HO} (hp : H p = none) : Ext μ H μ (upd H p o) :=
  ⟨⟨[], by simp⟩, fun q xs h => by rw [upd_ne (ne_of_none h hp)]; exact h, fun q ob u h => by rw [upd_ne (ne_of_none h hp)]; exact h, fun q ob h n => ⟨by rw [upd_ne (ne_of_none h hp)]; exact h, n⟩⟩
theorem Rel.fresh (r : Rel T μ H σ) {p : Addr} {o : HO} (hp : H p = none) : Rel T μ (upd H p o) σ :=
  r.keep (ext_new hp) fun a ha => by obtain ⟨u, h, _⟩ := r.mem ha; rw [upd_ne (ne_of_none h hp)]
/-- a new thing of the store -/
theorem ext_push {p : Addr} {o : HO} (hp : H p = none) : Ext μ H (μ ++ [p]) (upd H p o) :=
  ⟨⟨[p], rfl⟩, (ext_new (μ := μ) hp).tup, (ext_new (μ := μ) hp).frz, fun q ob h n => ⟨((ext_new (μ := μ) hp).keep q ob h n).1, fun z => (List.mem_append.mp z).elim n fun z => ne_of_none h hp (by simpa using z)⟩⟩
theorem Rel.push (r : Rel T μ H σ) {p : Addr} {o : HO} {ob : Ob} (hp : H p = none) (ho : ObR T (μ ++ [p]) (upd H p o) p ob) : Rel T (μ ++ [p]) (upd H p o) (σ ++ [ob]) := by
  refine ⟨by simp [r.len], ?_, fun n x h => ?_⟩
  · rw [List.nodup_append]
    refine ⟨r.nd, by simp, fun a ha b hb e => ?_⟩
    have eb : b = p := by simpa using hb
    subst eb; subst e
    obtain ⟨u, h, _⟩ := r.mem ha
    rw [hp] at h; cases h
  · by_cases hn : n < σ.length
    · rw [List.getElem?_append_left hn] at h
      obtain ⟨a, h1, h2⟩ := r.obs n x h
      obtain ⟨u, hu, _⟩ := h2.some
      exact ⟨a, by rw [List.getElem?_append_left (by rw [r.len]; exact hn)]; exact h1, h2.mono (ext_push hp) (upd_ne (ne_of_none hu hp))⟩
    · rw [List.getElem?_append_right (by omega)] at h
      have e0 : n - σ.length = 0 := by
        have := (List.getElem?_eq_some_iff.mp h).1
        simp at this; omega
      rw [e0] at h
      simp at h; subst h
      have en : n = μ.length := by rw [r.len]; omega
      subst en
      exact ⟨p, by simp, ho⟩
theorem rep_push {p : Addr} {o : HO} (r : Rel T μ H σ) : Rep T (μ ++ [p]) (upd H p o) (.ref σ.length) (.ref p) := by
  rw [Rep]; exact ⟨p, rfl, by rw [← r.len]; simp⟩
/-- a thing of the store is written -/
theorem ext_write {a : Addr} {u o : HO} (hm : a ∈ μ) (ha : H a = some u) (h1 : ∀ xs, u ≠ .tup xs) (h2 : ∀ ob w, u ≠ .frz ob w) : Ext μ H μ (upd H a o) :=
  ⟨⟨[], by simp⟩, fun q xs h => by rw [upd_ne (ne_of h ha (fun z => h1 xs z.symm))]; exact h, fun q ob w h => by rw [upd_ne (ne_of h ha (fun z => h2 ob w z.symm))]; exact h, fun q ob h n => ⟨by rw [upd_ne (fun z => n (by rw [z]; exact hm))]; exact h, n⟩⟩
theorem Rel.write (r : Rel T μ H σ) {n : Nat} {a : Addr} {o : HO} {ob : Ob} (hn : μ[n]? = some a) (ho : ObR T μ (upd H a o) a ob) : Ext μ H μ (upd H a o) ∧ Rel T μ (upd H a o) (σ.set n ob) := by
  obtain ⟨u, hu, h1, h2⟩ := r.mem (List.mem_of_getElem? hn)
  have e : Ext μ H μ (upd H a o) := ext_write (List.mem_of_getElem? hn) hu h1 h2
  refine ⟨e, by simp [r.len], r.nd, fun m x h => ?_⟩
  rw [List.getElem?_set] at h
  by_cases hm : n = m
  · subst hm
    rw [if_pos rfl] at h
    split at h
    · cases h
      exact ⟨a, hn, ho⟩
    · cases h
  · rw [if_neg hm] at h
    obtain ⟨b, h3, h4⟩ := r.obs m x h
    refine ⟨b, h3, h4.mono e (upd_ne fun z => hm ?_)⟩
    subst z
    exact nodup_at r.nd hn h3
theorem Rel.at (r : Rel T μ H σ) {n : Nat} {v : V} {o : Ob} (h : Rep T μ H (.ref n) v) (e : σ[n]? = some o) : ∃ a, v = .ref a ∧ μ[n]? = some a ∧ ObR T μ H a o := by
  rw [Rep] at h
  obtain ⟨a, rfl, ha⟩ := h
  obtain ⟨a', h1, h2⟩ := r.obs n o e
  rw [ha] at h1; cases h1
  exact ⟨a, rfl, ha, h2⟩
end

/-! ### expressions -/
def eVar (i : Nat) : Ev → M D := fun ρ σ => match ρ[i]? with
  | some (some d) => .ok d σ
  | _ => .bad
def eC (d : D) : Ev → M D := fun _ => ret d
def binK (o : D → D → M D) (m : M D) (x : D) : M D := bnd m (o x)
def eBin (o : D → D → M D) (a b : Ev → M D) : Ev → M D := fun ρ => bnd (a ρ) (binK o (b ρ))
def eUn (o : D → M D) (a : Ev → M D) : Ev → M D := fun ρ => bnd (a ρ) o
def tst (d : D) : M Bool := match d with
  | .bl b => ret b
  | _ => bad
def ifK {α : Type} (p q : M α) (c : Bool) : M α := if c = true then p else q
def notK (c : Bool) : M Bool := ret (!c)
def testK {α : Type} (k : Bool → M α) (d : D) : M α := bnd (tst d) k
def eT (f : Ev → M D) : Ev → M Bool := fun ρ => bnd (f ρ) tst
def bAnd (a b : Ev → M Bool) : Ev → M Bool := fun ρ => bnd (a ρ) (ifK (b ρ) (ret false))
def bOr (a b : Ev → M Bool) : Ev → M Bool := fun ρ => bnd (a ρ) (ifK (ret true) (b ρ))
def bNot (a : Ev → M Bool) : Ev → M Bool := fun ρ => bnd (a ρ) notK
def eAnd (a b : Ev → M D) : Ev → M D := fun ρ => bnd (a ρ) (testK (ifK (b ρ) (ret (.bl false))))
def eOr (a b : Ev → M D) : Ev → M D := fun ρ => bnd (a ρ) (testK (ifK (ret (.bl true)) (b ρ)))
def nboxK (c : Bool) : M D := ret (.bl (!c))
def eNot (a : Ev → M D) : Ev → M D := fun ρ => bnd (a ρ) (testK nboxK)
def eIf (t : Ev → M Bool) (a b : Ev → M D) : Ev → M D := fun ρ => bnd (t ρ) (ifK (a ρ) (b ρ))
def aNil : Ev → M (List D) := fun _ => ret []
def consK (x : D) (xs : List D) : M (List D) := ret (x :: xs)
def aConsK (m : M (List D)) (x : D) : M (List D) := bnd m (consK x)
def aCons (e : Ev → M D) (r : Ev → M (List D)) : Ev → M (List D) := fun ρ => bnd (e ρ) (aConsK (r ρ))
def tupK (ds : List D) : M D := if ds.length ≤ cap then ret (.tup ds) else bad
def eTup (a : Ev → M (List D)) : Ev → M D := fun ρ => bnd (a ρ) tupK
def mkLst (ds : List D) : M D := fun σ => .ok (.ref σ.length) (σ ++ [.lst ds])
def lstK (ds : List D) : M D := if ds.length ≤ cap then mkLst ds else bad
def eLst (a : Ev → M (List D)) : Ev → M D := fun ρ => bnd (a ρ) lstK
/-- a list that nobody changes -/
def lvK (ds : List D) : M D := if ds.length ≤ cap then ret (.lst ds) else bad
def eLv (a : Ev → M (List D)) : Ev → M D := fun ρ => bnd (a ρ) lvK

def SndOp (T : Tb) (r : R2) (o : D → D → M D) : Prop := ∀ (E : XK) μ H σ x y v u Q, Rel T μ H σ → Rep T μ H x v → Rep T μ H y u → Post T E (Rep T) μ H (o x y σ) Q → r v u H Q
def SndUn (T : Tb) (r : V → Hp → VK → Prop) (o : D → M D) : Prop := ∀ (E : XK) μ H σ x v Q, Rel T μ H σ → Rep T μ H x v → Post T E (Rep T) μ H (o x σ) Q → r v H Q
def SndCall (T : Tb) (r : List V → Hp → VK → Prop) (o : List D → M D) : Prop := ∀ (E : XK) μ H σ xs vs Q, Rel T μ H σ → RepL T μ H xs vs → Post T E (Rep T) μ H (o xs σ) Q → r vs H Q

section
variable {T : Tb} {X : Cx} {a b c : Expr} {fa fb : Ev → M D} {ta tb : Ev → M Bool} {pos : Pos}
theorem fe_var (i : Nat) {x : Str} (hN : X.N[i]? = some x := by rfl) (hv : Vis X.env.scope x := by first | exact Or.inl rfl | exact Or.inr (Or.inl rfl) | exact Or.inr (Or.inr rfl)) (hd : (x == ("__debug__" : Str)) = false := by decide)
    (hcd : (x == ("__classdict__" : Str)) = false := by decide) : FE T X (.Name x pos) (eVar i) := by
  intro pins s st H Q I h
  obtain ⟨μ, ρ, σ, he, hr, hp⟩ := h
  refine pe_var hN hv hd hcd pins s st H Q I ?_
  unfold eVar at hp
  cases e : ρ[i]? with
  | none => rw [e] at hp; exact hp.elim
  | some o =>
    cases o with
    | none => rw [e] at hp; exact hp.elim
    | some d =>
      rw [e] at hp
      obtain ⟨v, h1, h2⟩ := he.2 i d e
      exact ⟨v, h1, hp.here hr h2⟩
theorem fe_const {e : Expr} {v : V} {d : D} (h : PE X e (tC v)) (r : ∀ μ H, Rep T μ H d v) : FE T X e (eC d) := by
  intro pins s st H Q I hq
  obtain ⟨μ, ρ, σ, he, hr, hp⟩ := hq
  exact h pins s st H Q I (Post.here hp hr (r _ _))
theorem fe_int {i : Int} {j} : FE T X (.Constant (.int i) j pos) (eC (.int i)) := fe_const pe_int fun _ _ => by rw [Rep]
theorem fe_bl {i : Bool} {j} : FE T X (.Constant (.bool i) j pos) (eC (.bl i)) := fe_const pe_bl fun _ _ => by rw [Rep]
theorem fe_non {j} : FE T X (.Constant .none j pos) (eC .non) := fe_const pe_non fun _ _ => by rw [Rep]
theorem fe_str {i : Str} {j} : FE T X (.Constant (.str i) j pos) (eC (.str i)) := fe_const pe_str fun _ _ => by rw [Rep]
theorem fe_globI {x : Str} {u : Value} {i : Int} (hg : Gl X x) (hm : X.mg x = some u) (r : RelV (.int i) u) (hd : (x == ("__debug__" : Str)) = false := by decide) : FE T X (.Name x pos) (eC (.int i)) := fe_const (pe_glob hg hm r hd) fun _ _ => by rw [Rep]
/-- two expressions, then an operation -/
theorem two {r : R2} {o : D → D → M D} (hs : SndOp T r o) {st : St} {H : Hp} {Q : VK} (h : tF T X (eBin o fa fb) st H Q) : tOp r (tF T X fa) (tF T X fb) st H Q := by
  obtain ⟨μ, ρ, σ, he, hr, hp⟩ := h
  exact ⟨μ, ρ, σ, he, hr, hp.bind fun x σ1 μ1 v H1 _ e1 r1 p1 q1 => ⟨μ1, ρ, σ1, he.mono e1, r1, q1.bind fun y σ2 μ2 u H2 _ e2 r2 p2 q2 => hs _ μ2 H2 σ2 x y v u Q r2 (Rep.mono e2 _ _ p1) p2 q2⟩⟩
theorem fe_op {op : Operator} {r : R2} {o : D → D → M D} (ho : OpR X (binaryOp op) r) (hs : SndOp T r o) (ha : FE T X a fa) (hb : FE T X b fb) : FE T X (.BinOp a op b pos) (eBin o fa fb) :=
  fun pins s st H Q I h => pe_op ho ha hb pins s st H Q I (two hs h)
theorem fe_cmp {op : CmpOp} {r : R2} {o : D → D → M D} (ho : OpR X (compareOp op) r) (hs : SndOp T r o) (ha : FE T X a fa) (hb : FE T X b fb) (hm : behindInMarks op b = false) : FE T X (.Compare a [op] [b] pos) (eBin o fa fb) :=
  fun pins s st H Q I h => pe_cmpR ho ha hb hm pins s st H Q I (two hs h)
theorem fe_ix {r : R2} {o : D → D → M D} (ho : IxR X r) (hs : SndOp T r o) (ha : FE T X a fa) (hb : FE T X b fb) (hp : PlainIx b) : FE T X (.Subscript a b pos) (eBin o fa fb) :=
  fun pins s st H Q I h => pe_ix ho ha hb hp pins s st H Q I (two hs h)
theorem fe_un {op : UnaryOp} {r : V → Hp → VK → Prop} {o : D → M D} (ho : UnR X (unaryOp op) r) (hs : SndUn T r o) (ha : FE T X a fa) : FE T X (.UnaryOp op a pos) (eUn o fa) := by
  intro pins s st H Q I h
  refine pe_un ho ha pins s st H Q I ?_
  obtain ⟨μ, ρ, σ, he, hr, hp⟩ := h
  exact ⟨μ, ρ, σ, he, hr, hp.bind fun x σ1 μ1 v H1 _ e1 r1 p1 q1 => hs _ μ1 H1 σ1 x v Q r1 p1 q1⟩
/-- tests -/
theorem tst_bl {E : XK} {d : D} {σ : Sto} {μ : List Addr} {H : Hp} {v : V} {β δ : Type} {R' : List Addr → Hp → β → δ → Prop} {k : Bool → M β} {Q : δ → Hp → Prop} (r : Rep T μ H d v) (h : Post T E R' μ H (bnd (tst d) k σ) Q) : ∃ c, d = .bl c ∧ v = .bl c ∧ Post T E R' μ H (k c σ) Q := by
  cases d with
  | bl c => rw [Rep] at r; exact ⟨c, rfl, r, h⟩
  | _ => exact h.elim
theorem tst_bl1 {E : XK} {d : D} {σ : Sto} {μ : List Addr} {H : Hp} {v : V} {Q : Bool → Hp → Prop} (r : Rep T μ H d v) (h : Post T E RBool μ H (tst d σ) Q) : ∃ c, v = .bl c ∧ Post T E RBool μ H (.ok c σ) Q := by
  cases d with
  | bl c => rw [Rep] at r; exact ⟨c, r, h⟩
  | _ => exact h.elim
theorem ft_cmp {op : CmpOp} {r : R2} {o : D → D → M D} (ho : OpR X (compareOp op) r) (hs : SndOp T r o) (ha : FE T X a fa) (hb : FE T X b fb) (hm : behindInMarks op b = false) : FT T X (.Compare a [op] [b] pos) (eT (eBin o fa fb)) := by
  intro pins s st H Q I h
  refine pt_cmpR ho ha hb hm pins s st H Q I ?_
  refine two (o := o) hs ?_
  obtain ⟨μ, ρ, σ, he, hr, hp⟩ := h
  refine ⟨μ, ρ, σ, he, hr, hp.bind fun d σ1 μ1 v H1 _ e1 r1 p1 q1 => ?_⟩
  obtain ⟨k, ev, q⟩ := tst_bl1 p1 q1
  exact ⟨k, ev, q.here r1 rfl⟩
theorem ft_val {e : Expr} {f : Ev → M D} (h : FE T X e f) (he : ∀ whole, isTrue e X.env whole = (do let v ← whole; standAt e.pos; holding [v] (truthy v)) := by intro _; rfl) : FT T X e (eT f) := by
  intro pins s st H Q I hw
  refine pt_val h he pins s st H Q I ?_
  obtain ⟨μ, ρ, σ, hE, hr, hp⟩ := hw
  refine ⟨μ, ρ, σ, hE, hr, hp.bind fun d σ1 μ1 v H1 _ e1 r1 p1 q1 => ?_⟩
  obtain ⟨k, ev, q⟩ := tst_bl1 p1 q1
  exact ⟨k, ev, q.here r1 rfl⟩
theorem ft_not (h : FT T X a ta) : FT T X (.UnaryOp .Not a pos) (bNot ta) := by
  intro pins s st H Q I hw
  refine pt_not h pins s st H Q I ?_
  obtain ⟨μ, ρ, σ, hE, hr, hp⟩ := hw
  exact ⟨μ, ρ, σ, hE, hr, hp.bind fun c σ1 μ1 v H1 _ e1 r1 p1 q1 => by cases p1; exact q1.here r1 rfl⟩
variable {rest : List Expr}
theorem fw_and1 (h : FT T X a ta) : FW T X (.BoolOp .And [a] pos) ta := pw_and1 h
theorem fw_or1 (h : FT T X a ta) : FW T X (.BoolOp .Or [a] pos) ta := pw_or1 h
theorem fw_and (h : FT T X a ta) (hb : FW T X (.BoolOp .And (b :: rest) pos) tb) : FW T X (.BoolOp .And (a :: b :: rest) pos) (bAnd ta tb) := by
  intro wh pins s st H Q I hw
  refine pw_and h hb wh pins s st H Q I ?_
  obtain ⟨μ, ρ, σ, hE, hr, hp⟩ := hw
  refine ⟨μ, ρ, σ, hE, hr, hp.bind fun c σ1 μ1 v H1 _ e1 r1 p1 q1 => ?_⟩
  cases p1
  cases c with
  | true => unfold ifK at q1; rw [if_pos rfl] at q1 ⊢; exact ⟨μ1, ρ, σ1, hE.mono e1, r1, q1⟩
  | false => unfold ifK at q1; rw [if_neg Bool.false_ne_true] at q1 ⊢; exact q1.here r1 rfl
theorem fw_or (h : FT T X a ta) (hb : FW T X (.BoolOp .Or (b :: rest) pos) tb) : FW T X (.BoolOp .Or (a :: b :: rest) pos) (bOr ta tb) := by
  intro wh pins s st H Q I hw
  refine pw_or h hb wh pins s st H Q I ?_
  obtain ⟨μ, ρ, σ, hE, hr, hp⟩ := hw
  refine ⟨μ, ρ, σ, hE, hr, hp.bind fun c σ1 μ1 v H1 _ e1 r1 p1 q1 => ?_⟩
  cases p1
  cases c with
  | true => unfold ifK at q1; rw [if_pos rfl] at q1 ⊢; exact q1.here r1 rfl
  | false => unfold ifK at q1; rw [if_neg Bool.false_ne_true] at q1 ⊢; exact ⟨μ1, ρ, σ1, hE.mono e1, r1, q1⟩
theorem fe_one {op} (h : FE T X a fa) : FE T X (.BoolOp op [a] pos) fa := pe_one h
theorem fe_and (h : FE T X a fa) (hb : FE T X (.BoolOp .And (b :: rest) pos) fb) : FE T X (.BoolOp .And (a :: b :: rest) pos) (eAnd fa fb) := by
  intro pins s st H Q I hw
  refine pe_and h hb pins s st H Q I ?_
  obtain ⟨μ, ρ, σ, hE, hr, hp⟩ := hw
  refine ⟨μ, ρ, σ, hE, hr, hp.bind fun d σ1 μ1 v H1 _ e1 r1 p1 q1 => ?_⟩
  obtain ⟨c, rfl, ev, q⟩ := tst_bl p1 q1
  refine ⟨c, ev, ?_⟩
  cases c with
  | true => unfold ifK at q; rw [if_pos rfl] at q ⊢; exact ⟨μ1, ρ, σ1, hE.mono e1, r1, q⟩
  | false => unfold ifK at q; rw [if_neg Bool.false_ne_true] at q ⊢; exact Post.here q r1 (by rw [Rep])
theorem fe_not (h : FE T X a fa) : FE T X (.UnaryOp .Not a pos) (eNot fa) := by
  intro pins s st H Q I hw
  refine pe_not h pins s st H Q I ?_
  obtain ⟨μ, ρ, σ, hE, hr, hp⟩ := hw
  refine ⟨μ, ρ, σ, hE, hr, hp.bind fun d σ1 μ1 v H1 _ e1 r1 p1 q1 => ?_⟩
  obtain ⟨c, rfl, ev, q⟩ := tst_bl p1 q1
  exact ⟨c, ev, Post.here q r1 (by rw [Rep])⟩
variable {e : Expr} {es : List Expr} {fe : Ev → M D} {fs : Ev → M (List D)}
theorem fa_nil : FA T X [] aNil := by
  intro pos pins s st H Q I hw
  refine pa_nil pos pins s st H Q I ?_
  obtain ⟨μ, ρ, σ, hE, hr, hp⟩ := hw
  exact Post.here hp hr RepL.nil
theorem fa_cons (ha : FE T X e fe) (hr : FA T X es fs) (hs : starEach (e :: es) X.env = (false, eval e X.env) :: starEach es X.env := by rfl) : FA T X (e :: es) (aCons fe fs) := by
  intro pos pins s st H Q I hw
  refine pa_cons ha hr hs pos pins s st H Q I ?_
  obtain ⟨μ, ρ, σ, hE, hr, hp⟩ := hw
  exact ⟨μ, ρ, σ, hE, hr, hp.bind fun d σ1 μ1 v H1 _ e1 r1 p1 q1 => ⟨μ1, ρ, σ1, hE.mono e1, r1, q1.bind fun ds σ2 μ2 vs H2 _ e2 r2 p2 q2 => Post.here q2 r2 (RepL.cons (Rep.mono e2 _ _ p1) p2)⟩⟩
theorem new_tup {E : XK} {μ : List Addr} {H : Hp} {σ : Sto} {ds : List D} {vs : List V} {Q : VK} {p : Addr} (h : Post T E (Rep T) μ H (.ok (.tup ds) σ) Q) (r : Rel T μ H σ) (q : RepL T μ H ds vs) (hp : H p = none) : Q (.ref p) (upd H p (.tup vs)) :=
  h μ (.ref p) _ (ext_new hp) (r.fresh hp) (by rw [Rep]; exact ⟨p, vs, rfl, upd_same, RepL.mono (ext_new hp) _ _ q⟩)
theorem new_lst {E : XK} {μ : List Addr} {H : Hp} {σ : Sto} {ds : List D} {vs : List V} {Q : VK} {p : Addr} (h : Post T E (Rep T) μ H (mkLst ds σ) Q) (r : Rel T μ H σ) (q : RepL T μ H ds vs) (hp : H p = none) : Q (.ref p) (upd H p (.lst vs)) :=
  h (μ ++ [p]) (.ref p) _ (ext_push hp) (r.push hp ⟨vs, upd_same, RepL.mono (ext_push hp) _ _ q⟩) (rep_push r)
theorem fe_tup {x1} (h : FA T X es fs) : FE T X (.Tuple es x1 pos) (eTup fs) := by
  intro pins s st H Q I hw
  refine pe_tup h pins s st H Q I ?_
  obtain ⟨μ, ρ, σ, hE, hr, hp⟩ := hw
  refine ⟨μ, ρ, σ, hE, hr, hp.bind fun ds σ1 μ1 vs H1 _ e1 r1 p1 q1 => ?_⟩
  unfold tupK at q1
  by_cases hl : ds.length ≤ cap
  · rw [if_pos hl] at q1
    exact ⟨by rw [← p1.length]; exact cap_le hl, fun p hp => new_tup q1 r1 p1 hp⟩
  · rw [if_neg hl] at q1; exact q1.elim
theorem new_lv {E : XK} {μ : List Addr} {H : Hp} {σ : Sto} {ds : List D} {vs : List V} {Q : VK} {p : Addr} (h : Post T E (Rep T) μ H (.ok (.lst ds) σ) Q) (r : Rel T μ H σ) (q : RepL T μ H ds vs) (hp : H p = none) : Q (.ref p) (upd H p (.lst vs)) :=
  h μ (.ref p) _ (ext_new hp) (r.fresh hp) (by rw [Rep]; exact ⟨p, vs, rfl, fun hm => (by obtain ⟨u, hu, _⟩ := r.mem hm; rw [hp] at hu; cases hu), upd_same, RepL.mono (ext_new hp) _ _ q⟩)
theorem fe_lv (h : FA T X es fs) : FE T X (.List es pos) (eLv fs) := by
  intro pins s st H Q I hw
  refine pe_lst h pins s st H Q I ?_
  obtain ⟨μ, ρ, σ, hE, hr, hp⟩ := hw
  refine ⟨μ, ρ, σ, hE, hr, hp.bind fun ds σ1 μ1 vs H1 _ e1 r1 p1 q1 => ?_⟩
  unfold lvK at q1
  by_cases hl : ds.length ≤ cap
  · rw [if_pos hl] at q1
    exact ⟨by rw [← p1.length]; exact cap_le hl, fun p hp => new_lv q1 r1 p1 hp⟩
  · rw [if_neg hl] at q1; exact q1.elim
end
end L4

namespace L4
open PySem PySem.Spec PyProof.Rows L2

/-! ### ints -/
def oI (g : Int → Int → Int) : D → D → M D
  | .int i, .int j => ret (.int (g i j))
  | _, _ => bad
def oB (g : Int → Int → Bool) : D → D → M D
  | .int i, .int j => ret (.bl (g i j))
  | _, _ => bad
def oIC (C : Int → Int → Bool) (g : Int → Int → Int) : D → D → M D
  | .int i, .int j => if C i j = true then ret (.int (g i j)) else bad
  | _, _ => bad
noncomputable def cMul (i j : Int) : Bool := hide ((decide (-(2 ^ 64) < i) && decide (i < 2 ^ 64)) || (decide (-(2 ^ 64) < j) && decide (j < 2 ^ 64)))
noncomputable def cDiv (_ j : Int) : Bool := hide (decide (0 < j) && decide (j < 1073741824))
noncomputable def cMod (_ j : Int) : Bool := hide (decide (0 < j))
noncomputable def cPow (i j : Int) : Bool := hide (decide (0 ≤ j) && decide (j ≤ 1000000) && decide (i.natAbs < 2 ^ 64))
noncomputable def cShr (_ j : Int) : Bool := hide (decide (0 ≤ j))
abbrev oSub := oI (fun i j => i - j)
noncomputable abbrev oMul := oIC cMul (fun i j => i * j)
noncomputable abbrev oDiv := oIC cDiv (fun i j => i / j)
noncomputable abbrev oMod := oIC cMod (fun i j => i % j)
noncomputable abbrev oPow := oIC cPow (fun i j => i ^ j.toNat)
noncomputable abbrev oShr := oIC cShr (fun i j => i / 2 ^ j.toNat)
abbrev oLt := oB (fun i j => decide (i < j))
abbrev oLe := oB (fun i j => decide (i ≤ j))
abbrev oGt := oB (fun i j => decide (j < i))
def oNeg : D → M D
  | .int i => ret (.int (-i))
  | _ => bad

/-- an operation read by its data -/
def rD (T : Tb) (o : D → D → M D) : R2 := fun v u H Q => ∃ (E : XK) (μ : List Addr) (σ : Sto) (x y : D), Rel T μ H σ ∧ Rep T μ H x v ∧ Rep T μ H y u ∧ Post T E (Rep T) μ H (o x y σ) Q
theorem sndD {T : Tb} {o : D → D → M D} : SndOp T (rD T o) o := fun E μ H σ x y v u Q r p q h => ⟨E, μ, σ, x, y, r, p, q, h⟩

section
variable {T : Tb} {X : Cx}
theorem int_of {μ : List Addr} {H : Hp} {i : Int} {v : V} (h : Rep T μ H (.int i) v) : v = .int i := by simpa [Rep] using h
theorem snd_I {g : Int → Int → Int} : SndOp T (rI0 fun i j => .int (g i j)) (oI g) := by
  intro E μ H σ x y v u Q r p q h
  cases x with
  | int i =>
    cases y with
    | int j => exact ⟨i, j, int_of p, int_of q, Post.here h r (by rw [Rep])⟩
    | _ => exact h.elim
  | _ => exact h.elim
theorem snd_B {g : Int → Int → Bool} : SndOp T (rI0 fun i j => .bl (g i j)) (oB g) := by
  intro E μ H σ x y v u Q r p q h
  cases x with
  | int i =>
    cases y with
    | int j => exact ⟨i, j, int_of p, int_of q, Post.here h r (by rw [Rep])⟩
    | _ => exact h.elim
  | _ => exact h.elim
theorem snd_IC {C : Int → Int → Bool} {C' : Int → Int → Prop} {g : Int → Int → Int} (hC : ∀ i j, C i j = true → C' i j) : SndOp T (rI C' fun i j => .int (g i j)) (oIC C g) := by
  intro E μ H σ x y v u Q r p q h
  cases x with
  | int i =>
    cases y with
    | int j =>
      by_cases hc : C i j = true
      · have h' : Post T E (Rep T) μ H (ret (.int (g i j)) σ) Q := by
          have e : oIC C g (.int i) (.int j) = ret (.int (g i j)) := by show (if C i j = true then _ else _) = _; rw [if_pos hc]
          rw [e] at h; exact h
        exact ⟨i, j, int_of p, int_of q, hC i j hc, Post.here h' r (by rw [Rep])⟩
      · have e : oIC C g (.int i) (.int j) = bad := by show (if C i j = true then _ else _) = _; rw [if_neg hc]
        rw [e] at h; exact h.elim
    | _ => exact h.elim
  | _ => exact h.elim
theorem snd_sub : SndOp T (rI0 fun i j => .int (i - j)) oSub := snd_I
theorem snd_mul : SndOp T (rI CMul fun i j => .int (i * j)) oMul := snd_IC fun i j h => by
  simp only [cMul, hide_eq, Bool.or_eq_true, Bool.and_eq_true, decide_eq_true_eq] at h; exact h
theorem snd_div : SndOp T (rI CDiv fun i j => .int (i / j)) oDiv := snd_IC fun i j h => by
  simp only [cDiv, hide_eq, Bool.and_eq_true, decide_eq_true_eq] at h; exact h
theorem snd_mod : SndOp T (rI (fun _ j => 0 < j) fun i j => .int (i % j)) oMod := snd_IC fun i j h => by
  simp only [cMod, hide_eq, decide_eq_true_eq] at h; exact h
theorem snd_pow : SndOp T (rI CPow fun i j => .int (i ^ j.toNat)) oPow := snd_IC fun i j h => by
  simp only [cPow, hide_eq, Bool.and_eq_true, decide_eq_true_eq] at h; exact ⟨h.1.1, h.1.2, h.2⟩
theorem snd_lt : SndOp T (rI0 fun i j => .bl (decide (i < j))) oLt := snd_B
theorem snd_le : SndOp T (rI0 fun i j => .bl (decide (i ≤ j))) oLe := snd_B
theorem snd_gt : SndOp T (rI0 fun i j => .bl (decide (j < i))) oGt := snd_B
theorem snd_neg : SndUn T (rU fun i => .int (-i)) oNeg := by
  intro E μ H σ x v Q r p h
  cases x with
  | int i => exact ⟨i, int_of p, Post.here h r (by rw [Rep])⟩
  | _ => exact h.elim
end

/-! ### equality -/
def sc : D → Option V
  | .non => some .non
  | .bl b => some (.bl b)
  | .int i => some (.int i)
  | .str x => some (.str x)
  | _ => none
def lstAt (σ : Sto) (n : Nat) : Option (List D) := match σ[n]? with
  | some (.lst xs) => some xs
  | _ => none
theorem lstAt_some {σ : Sto} {n : Nat} {xs : List D} (h : lstAt σ n = some xs) : σ[n]? = some (.lst xs) := by
  unfold lstAt at h
  cases e : σ[n]? with
  | none => rw [e] at h; cases h
  | some o => rw [e] at h; cases o <;> simp at h; subst h; rfl
/-- what a thing is, for == -/
inductive Kd where
  | s (v : V) | t (xs : List D) | l (xs : List D) | o
def kd (σ : Sto) : D → Kd
  | .non => .s .non
  | .bl b => .s (.bl b)
  | .int i => .s (.int i)
  | .str x => .s (.str x)
  | .tup xs => .t xs
  | .lst xs => .l xs
  | .ref n => match lstAt σ n with
    | some xs => .l xs
    | none => .o
  | _ => .o
def eqL (f : D → D → Option Bool) : List D → List D → Option Bool
  | [], [] => some true
  | [], _ :: _ => some false
  | _ :: _, [] => some false
  | x :: xs, y :: ys => match f x y, eqL f xs ys with
    | some b, some c => some (b && c)
    | _, _ => none
/-- by kinds, the parts of a sequence by f -/
def eqK (f : D → D → Option Bool) : Kd → Kd → Option Bool
  | .s a, .s b => some (eqV a b)
  | .t xs, .t ys => eqL f xs ys
  | .l xs, .l ys => eqL f xs ys
  | .s _, .t _ => some false
  | .t _, .s _ => some false
  | .s _, .l _ => some false
  | .l _, .s _ => some false
  | .t _, .l _ => some false
  | .l _, .t _ => some false
  | _, _ => none
def eqD (σ : Sto) : Nat → D → D → Option Bool
  | 0, x, y => eqK (fun _ _ => none) (kd σ x) (kd σ y)
  | n + 1, x, y => eqK (eqD σ n) (kd σ x) (kd σ y)
def eAt (f : D → D → Option Bool) (xs ys : List D) (j : Nat) : Bool := match xs[j]?, ys[j]? with
  | some a, some b => (f a b).getD false
  | _, _ => false
theorem eqL_spec (f : D → D → Option Bool) : ∀ (xs ys : List D) (b : Bool), eqL f xs ys = some b →
    (∀ (j : Nat) (a c : D), xs[j]? = some a → ys[j]? = some c → ∃ k, f a c = some k) ∧ b = ((List.range (min xs.length ys.length)).all (eAt f xs ys) && xs.length == ys.length)
  | [], [], b, h => by simp [eqL] at h; subst h; simp
  | [], y :: ys, b, h => by simp [eqL] at h; subst h; simp
  | x :: xs, [], b, h => by simp [eqL] at h; subst h; simp
  | x :: xs, y :: ys, b, h => by
    unfold eqL at h
    cases e1 : f x y with
    | none => rw [e1] at h; cases h
    | some b1 =>
      cases e2 : eqL f xs ys with
      | none => rw [e1, e2] at h; cases h
      | some b2 =>
        rw [e1, e2] at h
        cases h
        obtain ⟨h1, h2⟩ := eqL_spec f xs ys b2 e2
        refine ⟨fun j a c ha hc => ?_, ?_⟩
        · cases j with
          | zero => simp at ha hc; subst ha; subst hc; exact ⟨b1, e1⟩
          | succ j => exact h1 j a c (by simpa using ha) (by simpa using hc)
        · have e3 : min (x :: xs).length (y :: ys).length = min xs.length ys.length + 1 := by simp [Nat.succ_min_succ]
          have e4 : ∀ j, eAt f (x :: xs) (y :: ys) (j + 1) = eAt f xs ys j := fun j => by simp [eAt]
          have e5 : eAt f (x :: xs) (y :: ys) 0 = b1 := by simp [eAt, e1]
          rw [e3, List.range_succ_eq_map, List.all_cons, List.all_map, e5, h2]
          have e6 : (eAt f (x :: xs) (y :: ys) ∘ Nat.succ) = eAt f xs ys := funext fun j => e4 j
          have e7 : ((x :: xs).length == (y :: ys).length) = (xs.length == ys.length) := by simp
          rw [e6, e7, Bool.and_assoc]
section
variable {T : Tb} {μ : List Addr} {H : Hp} {σ : Sto}
theorem Rel.lst (r : Rel T μ H σ) {n : Nat} {v : V} {xs : List D} (h : Rep T μ H (.ref n) v) (e : lstAt σ n = some xs) : ∃ a vs, v = .ref a ∧ μ[n]? = some a ∧ H a = some (.lst vs) ∧ RepL T μ H xs vs := by
  obtain ⟨a, rfl, h1, vs, h2, h3⟩ := r.at h (lstAt_some e)
  exact ⟨a, vs, rfl, h1, h2, h3⟩
theorem eqV_same {a : V} (h : flatV a = true) : eqV a a = true := by cases a <;> simp [flatV, eqV] at h ⊢
/-- how each kind lies -/
theorem kd_rep (r : Rel T μ H σ) {d : D} {v : V} (h : Rep T μ H d v) : match kd σ d with
    | .s a => v = a ∧ flatV a = true
    | .t xs => ∃ p vs, v = .ref p ∧ H p = some (.tup vs) ∧ RepL T μ H xs vs
    | .l xs => ∃ p vs, v = .ref p ∧ H p = some (.lst vs) ∧ RepL T μ H xs vs
    | .o => True := by
  cases d with
  | non => exact ⟨by simpa [Rep] using h, rfl⟩
  | bl b => exact ⟨by simpa [Rep] using h, rfl⟩
  | int b => exact ⟨by simpa [Rep] using h, rfl⟩
  | str b => exact ⟨by simpa [Rep] using h, rfl⟩
  | tup xs => rw [Rep] at h; exact h
  | lst xs => rw [Rep] at h; obtain ⟨a, vs, h1, _, h2, h3⟩ := h; exact ⟨a, vs, h1, h2, h3⟩
  | ref n =>
    unfold kd
    dsimp only
    cases e : lstAt σ n with
    | none => trivial
    | some xs => obtain ⟨a, vs, h1, _, h2, h3⟩ := r.lst h e; exact ⟨a, vs, h1, h2, h3⟩
  | _ => trivial
theorem eqL_same {f : D → D → Option Bool} (hf : ∀ (x y : D) (v : V) (b : Bool), Rep T μ H x v → Rep T μ H y v → f x y = some b → b = true) : ∀ (xs ys : List D) (vs : List V) (b : Bool), RepL T μ H xs vs → RepL T μ H ys vs → eqL f xs ys = some b → b = true
  | [], ys, vs, b, r1, r2, h => by
    rw [RepL] at r1; subst r1
    cases ys with
    | nil => simp [eqL] at h; exact h
    | cons y ys => rw [RepL] at r2; obtain ⟨_, _, z, _⟩ := r2; cases z
  | x :: xs, ys, vs, b, r1, r2, h => by
    rw [RepL] at r1; obtain ⟨v, r, rfl, p1, q1⟩ := r1
    cases ys with
    | nil => rw [RepL] at r2; cases r2
    | cons y ys =>
      rw [RepL] at r2; obtain ⟨v', r', z, p2, q2⟩ := r2
      cases z
      unfold eqL at h
      cases e1 : f x y with
      | none => rw [e1] at h; cases h
      | some b1 =>
        cases e2 : eqL f xs ys with
        | none => rw [e1, e2] at h; cases h
        | some b2 =>
          rw [e1, e2] at h; cases h
          rw [hf x y v b1 p1 p2 e1, eqL_same hf xs ys r b2 q1 q2 e2]; rfl
theorem eqK_same (r : Rel T μ H σ) {f : D → D → Option Bool} (hf : ∀ (x y : D) (v : V) (b : Bool), Rep T μ H x v → Rep T μ H y v → f x y = some b → b = true) {x y : D} {v : V} {b : Bool} (hx : Rep T μ H x v) (hy : Rep T μ H y v) (h : eqK f (kd σ x) (kd σ y) = some b) : b = true := by
  have kx := kd_rep r hx
  have ky := kd_rep r hy
  generalize kd σ x = k1 at h kx
  generalize kd σ y = k2 at h ky
  cases k1 with
  | s a =>
    obtain ⟨rfl, fa⟩ := kx
    cases k2 with
    | s c => obtain ⟨rfl, _⟩ := ky; cases h; exact eqV_same fa
    | t xs => obtain ⟨p, vs, rfl, _⟩ := ky; simp [flatV] at fa
    | l xs => obtain ⟨p, vs, rfl, _⟩ := ky; simp [flatV] at fa
    | o => cases h
  | t xs =>
    obtain ⟨p, vs, rfl, h1, r1⟩ := kx
    cases k2 with
    | s c => obtain ⟨e, fa⟩ := ky; rw [← e] at fa; simp [flatV] at fa
    | t ys =>
      obtain ⟨q, ws, e, h2, r2⟩ := ky
      cases e; rw [h1] at h2; cases h2
      exact eqL_same hf xs ys vs b r1 r2 h
    | l ys => obtain ⟨q, ws, e, h2, r2⟩ := ky; cases e; rw [h1] at h2; cases h2
    | o => cases h
  | l xs =>
    obtain ⟨p, vs, rfl, h1, r1⟩ := kx
    cases k2 with
    | s c => obtain ⟨e, fa⟩ := ky; rw [← e] at fa; simp [flatV] at fa
    | t ys => obtain ⟨q, ws, e, h2, r2⟩ := ky; cases e; rw [h1] at h2; cases h2
    | l ys =>
      obtain ⟨q, ws, e, h2, r2⟩ := ky
      cases e; rw [h1] at h2; cases h2
      exact eqL_same hf xs ys vs b r1 r2 h
    | o => cases h
  | o => cases h
/-- data at one value are alike -/
theorem eqD_same (r : Rel T μ H σ) : ∀ (n : Nat) (x y : D) (v : V) (b : Bool), Rep T μ H x v → Rep T μ H y v → eqD σ n x y = some b → b = true
  | 0, x, y, v, b, hx, hy, h => eqK_same r (fun _ _ _ _ _ _ z => by cases z) hx hy h
  | n + 1, x, y, v, b, hx, hy, h => eqK_same r (fun x y v b a1 a2 a3 => eqD_same r n x y v b a1 a2 a3) hx hy h
end
section
variable {T : Tb} {X : Cx} {pins : List (Addr × Obj)} {st : St} {μ : List Addr} {H : Hp} {s : Shared} {σ : Sto}
theorem sc_tup_eqAt {A : Around} {a : V} {u : Value} {p : Addr} {its : Array Value} (fa : flatV a = true) (r : RelV a u) (hp : s.heap.IsTuple p its) (hu : A.units < cLine) : SeqAt.EqAt A s u (.ref p) false ∧ SeqAt.EqAt A s (.ref p) u false ∧ SeqAt.RcAt A s u (.ref p) false ∧ SeqAt.RcAt A s (.ref p) u false ∧ SeqAt.RcNeAt A s u (.ref p) true ∧ SeqAt.RcNeAt A s (.ref p) u true := by
  cases a with
  | non => cases r; exact ⟨.none_tuple hp hu, .tuple_none hp hu, .none_tuple hp hu, .tuple_none hp hu, .none_tuple hp hu, .tuple_none hp hu⟩
  | bl b => cases r; exact ⟨.bool_tuple b hp hu, .tuple_bool b hp hu, .bool_tuple b hp hu, .tuple_bool b hp hu, .bool_tuple b hp hu, .tuple_bool b hp hu⟩
  | int b => obtain ⟨t, rfl⟩ := r; exact ⟨.int_tuple b t hp hu, .tuple_int b t hp hu, .int_tuple b t hp hu, .tuple_int b t hp hu, .int_tuple b t hp hu, .tuple_int b t hp hu⟩
  | str b => obtain ⟨t, rfl⟩ := r; exact ⟨.str_tuple b t hp hu, .tuple_str b t hp hu, .str_tuple b t hp hu, .tuple_str b t hp hu, .str_tuple b t hp hu, .tuple_str b t hp hu⟩
  | _ => simp [flatV] at fa
theorem sc_list_at {A : Around} {a : V} {u : Value} {p : Addr} {its : Array Value} (fa : flatV a = true) (r : RelV a u) (hp : s.heap.IsList p its) (hu : A.units < cLine) : SeqAt.RcAt A s u (.ref p) false ∧ SeqAt.RcAt A s (.ref p) u false ∧ SeqAt.RcNeAt A s u (.ref p) true ∧ SeqAt.RcNeAt A s (.ref p) u true := by
  cases a with
  | non => cases r; exact ⟨.none_list hp hu, .list_none hp hu, .none_list hp hu, .list_none hp hu⟩
  | bl b => cases r; exact ⟨.bool_list b hp hu, .list_bool b hp hu, .bool_list b hp hu, .list_bool b hp hu⟩
  | int b => obtain ⟨t, rfl⟩ := r; exact ⟨.int_list b t hp hu, .list_int b t hp hu, .int_list b t hp hu, .list_int b t hp hu⟩
  | str b => obtain ⟨t, rfl⟩ := r; exact ⟨.str_list b t hp hu, .list_str b t hp hu, .str_list b t hp hu, .list_str b t hp hu⟩
  | _ => simp [flatV] at fa
theorem sc_list_eqAt {A : Around} {a : V} {u : Value} {p : Addr} {its : Array Value} (fa : flatV a = true) (r : RelV a u) (hp : s.heap.IsList p its) (hu : A.units < cLine) : SeqAt.EqAt A s u (.ref p) false := by
  cases a with
  | non => cases r; exact .none_list hp hu
  | bl b => cases r; exact .bool_list b hp hu
  | int b => obtain ⟨t, rfl⟩ := r; exact .int_list b t hp hu
  | str b => obtain ⟨t, rfl⟩ := r; exact .str_list b t hp hu
  | _ => simp [flatV] at fa
theorem sc_list_eqAt2 {A : Around} {a : V} {u : Value} {p : Addr} {its : Array Value} (fa : flatV a = true) (r : RelV a u) (hp : s.heap.IsList p its) (hu : A.units < cLine) : SeqAt.EqAt A s (.ref p) u false := by
  cases a with
  | non => cases r; exact .list_none hp hu
  | bl b => cases r; exact .list_bool b hp hu
  | int b => obtain ⟨t, rfl⟩ := r; exact .list_int b t hp hu
  | str b => obtain ⟨t, rfl⟩ := r; exact .list_str b t hp hu
  | _ => simp [flatV] at fa
theorem rc_sc {A : Around} {a b : V} {u w : Value} (ra : RelV a u) (rb : RelV b w) (fa : flatV a = true) (fb : flatV b = true) : SeqAt.RcAt A s u w (eqV a b) ∧ SeqAt.RcNeAt A s u w (!eqV a b) := by
  cases a with
  | non =>
    cases ra
    cases b with
    | non => cases rb; exact ⟨.none_none, .none_none⟩
    | bl y => cases rb; exact ⟨.none_bool y, .none_bool y⟩
    | int y => obtain ⟨t, rfl⟩ := rb; exact ⟨.none_int y t, .none_int y t⟩
    | str y => obtain ⟨t, rfl⟩ := rb; exact ⟨.none_str y t, .none_str y t⟩
    | _ => simp [flatV] at fb
  | bl x =>
    cases ra
    cases b with
    | non => cases rb; exact ⟨.bool_none x, .bool_none x⟩
    | bl y => cases rb; exact ⟨.bool_bool x y, .bool_bool x y⟩
    | int y => obtain ⟨t, rfl⟩ := rb; exact ⟨.bool_int x y t, .bool_int x y t⟩
    | str y => obtain ⟨t, rfl⟩ := rb; exact ⟨.bool_str x y t, .bool_str x y t⟩
    | _ => simp [flatV] at fb
  | int x =>
    obtain ⟨t', rfl⟩ := ra
    cases b with
    | non => cases rb; exact ⟨.int_none x t', .int_none x t'⟩
    | bl y => cases rb; exact ⟨.int_bool x t' y, .int_bool x t' y⟩
    | int y => obtain ⟨t, rfl⟩ := rb; exact ⟨.int_int x t' y t, .int_int x t' y t⟩
    | str y => obtain ⟨t, rfl⟩ := rb; exact ⟨.int_str x t' y t, .int_str x t' y t⟩
    | _ => simp [flatV] at fb
  | str x =>
    obtain ⟨t', rfl⟩ := ra
    cases b with
    | non => cases rb; exact ⟨.str_none x t', .str_none x t'⟩
    | bl y => cases rb; exact ⟨.str_bool x t' y, .str_bool x t' y⟩
    | int y => obtain ⟨t, rfl⟩ := rb; exact ⟨.str_int x t' y t, .str_int x t' y t⟩
    | str y => obtain ⟨t, rfl⟩ := rb; exact ⟨.str_str x t' y t, .str_str x t' y t⟩
    | _ => simp [flatV] at fb
  | _ => simp [flatV] at fa
theorem vals_get {xs : List V} {us : List Value} {i : Nat} {u : Value} (r : Vals xs us) (h : us[i]? = some u) : ∃ x, xs[i]? = some x ∧ RelV x u := by
  have hl := r.length
  have hi := (List.getElem?_eq_some_iff.mp h).1
  obtain ⟨u', h1, h2⟩ := r.get (i := i) (x := xs[i]'(by omega)) (by simp)
  rw [h] at h1; cases h1
  exact ⟨_, by simp, h2⟩
theorem repl_get {ds : List D} {vs : List V} {i : Nat} {v : V} (r : RepL T μ H ds vs) (h : vs[i]? = some v) : ∃ d, ds[i]? = some d ∧ Rep T μ H d v := by
  have hl := r.length
  have hi := (List.getElem?_eq_some_iff.mp h).1
  obtain ⟨v', h1, h2⟩ := r.get (i := i) (d := ds[i]'(by omega)) (by simp)
  rw [h] at h1; cases h1
  exact ⟨_, by simp, h2⟩
/-- the items of two sequences, by an answer for each pair -/
theorem items_at {A : Around} {f : D → D → Option Bool} (hf : ∀ (x y : D) (v w : V) (v' w' : Value) (b : Bool), Rep T μ H x v → Rep T μ H y w → RelV v v' → RelV w w' → f x y = some b → SeqAt.EqAt A s v' w' b)
    {xs ys : List D} {vs ws : List V} {us zs : List Value} {b : Bool} (r1 : RepL T μ H xs vs) (r2 : RepL T μ H ys ws) (q1 : Vals vs us) (q2 : Vals ws zs) (h : eqL f xs ys = some b) :
    (∀ j (h1 : j < us.toArray.size) (h2 : j < zs.toArray.size), SeqAt.EqAt A s us.toArray[j] zs.toArray[j] (eAt f xs ys j)) ∧ b = ((List.range (min us.toArray.size zs.toArray.size)).all (eAt f xs ys) && us.toArray.size == zs.toArray.size) := by
  obtain ⟨h1, h2⟩ := eqL_spec f xs ys b h
  have l1 := r1.length
  have l2 := r2.length
  have l3 := q1.length
  have l4 := q2.length
  refine ⟨fun j g1 g2 => ?_, ?_⟩
  · obtain ⟨v, e1, rv⟩ := vals_get (i := j) (u := us.toArray[j]) q1 (by simp)
    obtain ⟨w, e2, rw'⟩ := vals_get (i := j) (u := zs.toArray[j]) q2 (by simp)
    obtain ⟨x, e3, p3⟩ := repl_get r1 e1
    obtain ⟨y, e4, p4⟩ := repl_get r2 e2
    obtain ⟨k, ek⟩ := h1 j x y e3 e4
    have e5 : eAt f xs ys j = k := by simp [eAt, e3, e4, ek]
    rw [e5]
    exact hf x y v w _ _ k p3 p4 rv rw' ek
  · simp only [List.size_toArray]
    rw [h2, l1, l2, l3, l4]
abbrev RcBoth (A : Around) (s : Shared) (v w : Value) (b : Bool) : Prop := SeqAt.RcAt A s v w b ∧ SeqAt.RcNeAt A s v w (!b)
/-- two kinds compared, the parts by f -/
theorem rcK {A : Around} (I : Inv X pins st H s) (r : Rel T μ H σ) (hu : A.units + 1 < cLine) {f : D → D → Option Bool}
    (hf : ∀ (x y : D) (v w : V) (v' w' : Value) (b : Bool), Rep T μ H x v → Rep T μ H y w → RelV v v' → RelV w w' → f x y = some b → SeqAt.EqAt A.in1 s v' w' b)
    {x y : D} {v w : V} {v' w' : Value} {b : Bool} (hx : Rep T μ H x v) (hy : Rep T μ H y w) (rv : RelV v v') (rw' : RelV w w') (h : eqK f (kd σ x) (kd σ y) = some b) : RcBoth A s v' w' b := by
  have hu0 : A.units < cLine := by omega
  have kx := kd_rep r hx
  have ky := kd_rep r hy
  generalize kd σ x = k1 at h kx
  generalize kd σ y = k2 at h ky
  cases k1 with
  | o => cases h
  | s a =>
    obtain ⟨rfl, fa⟩ := kx
    cases k2 with
    | o => cases h
    | s c => obtain ⟨rfl, fc⟩ := ky; cases h; exact rc_sc rv rw' fa fc
    | t ys =>
      obtain ⟨q, ws, rfl, h2, r2⟩ := ky
      cases h; cases rw'
      obtain ⟨its, _, hq, _⟩ := L2.Inv.tuple I (SqT.of (K := X.K) h2)
      obtain ⟨_, _, a1, a2, a3, a4⟩ := sc_tup_eqAt fa rv hq hu0
      exact ⟨a1, a3⟩
    | l ys =>
      obtain ⟨q, ws, rfl, h2, r2⟩ := ky
      cases h; cases rw'
      obtain ⟨its, _, pl, _⟩ := L2.Inv.list I (SqL.of (K := X.K) h2)
      obtain ⟨a1, a2, a3, a4⟩ := sc_list_at fa rv pl.isList hu0
      exact ⟨a1, a3⟩
  | t xs =>
    obtain ⟨p, vs, rfl, h1, r1⟩ := kx
    cases rv
    obtain ⟨its, q1, hp, _⟩ := L2.Inv.tuple I (SqT.of (K := X.K) h1)
    cases k2 with
    | o => cases h
    | s c =>
      obtain ⟨rfl, fc⟩ := ky; cases h
      obtain ⟨_, _, a1, a2, a3, a4⟩ := sc_tup_eqAt fc rw' hp hu0
      exact ⟨a2, a4⟩
    | t ys =>
      obtain ⟨q, ws, rfl, h2, r2⟩ := ky
      cases rw'
      obtain ⟨its2, q2, hq, _⟩ := L2.Inv.tuple I (SqT.of (K := X.K) h2)
      obtain ⟨g1, g2⟩ := items_at (A := A.in1) hf r1 r2 q1 q2 h
      rw [g2]
      exact ⟨.tuples hp hq (by omega) g1, .tuples hp hq (by omega) g1⟩
    | l ys =>
      obtain ⟨q, ws, rfl, h2, r2⟩ := ky
      cases h; cases rw'
      obtain ⟨its2, _, pl, _⟩ := L2.Inv.list I (SqL.of (K := X.K) h2)
      exact ⟨.tuple_list hp pl.isList hu0, .tuple_list hp pl.isList hu0⟩
  | l xs =>
    obtain ⟨p, vs, rfl, h1, r1⟩ := kx
    cases rv
    obtain ⟨its, q1, pl, _⟩ := L2.Inv.list I (SqL.of (K := X.K) h1)
    cases k2 with
    | o => cases h
    | s c =>
      obtain ⟨rfl, fc⟩ := ky; cases h
      obtain ⟨a1, a2, a3, a4⟩ := sc_list_at fc rw' pl.isList hu0
      exact ⟨a2, a4⟩
    | t ys =>
      obtain ⟨q, ws, rfl, h2, r2⟩ := ky
      cases h; cases rw'
      obtain ⟨its2, _, hq, _⟩ := L2.Inv.tuple I (SqT.of (K := X.K) h2)
      exact ⟨.list_tuple pl.isList hq hu0, .list_tuple pl.isList hq hu0⟩
    | l ys =>
      obtain ⟨q, ws, rfl, h2, r2⟩ := ky
      cases rw'
      obtain ⟨its2, q2, pl2, _⟩ := L2.Inv.list I (SqL.of (K := X.K) h2)
      obtain ⟨g1, g2⟩ := items_at (A := A.in1) hf r1 r2 q1 q2 h
      by_cases hz : its.toArray.size = its2.toArray.size
      · have e : b = (List.range its.toArray.size).all (eAt f xs ys) := by rw [g2, ← hz]; simp
        rw [e]
        exact ⟨.lists pl.isList pl2.isList hz (by omega) g1, .lists pl.isList pl2.isList hz (by omega) g1⟩
      · have e : b = false := by rw [g2, beq_eq_false_iff_ne.mpr hz, Bool.and_false]
        rw [e]
        exact ⟨.lists_lengths pl.isList pl2.isList (by simpa using hz) (by omega), .lists_lengths pl.isList pl2.isList (by simpa using hz) (by omega)⟩
/-- the same within a sequence -/
theorem eqK_at {A : Around} (I : Inv X pins st H s) (r : Rel T μ H σ) (hu : A.units + 1 < cLine) {f : D → D → Option Bool}
    (hf : ∀ (x y : D) (v w : V) (v' w' : Value) (b : Bool), Rep T μ H x v → Rep T μ H y w → RelV v v' → RelV w w' → f x y = some b → SeqAt.EqAt A.in1 s v' w' b)
    (hs : ∀ (x y : D) (v : V) (b : Bool), Rep T μ H x v → Rep T μ H y v → f x y = some b → b = true)
    {x y : D} {v w : V} {v' w' : Value} {b : Bool} (hx : Rep T μ H x v) (hy : Rep T μ H y w) (rv : RelV v v') (rw' : RelV w w') (h : eqK f (kd σ x) (kd σ y) = some b) : SeqAt.EqAt A s v' w' b := by
  have hu0 : A.units < cLine := by omega
  have rc := (rcK I r hu hf hx hy rv rw' h).1
  by_cases hvw : v = w
  · subst hvw
    have hb := eqK_same r hs hx hy h
    have kx := kd_rep r hx
    have ky := kd_rep r hy
    generalize kd σ x = k1 at h kx
    generalize kd σ y = k2 at h ky
    cases k1 with
    | o => cases h
    | s a =>
      obtain ⟨rfl, fa⟩ := kx
      cases k2 with
      | o => cases h
      | s c => obtain ⟨rfl, fc⟩ := ky; cases h; exact eqAt_V rv rw' fa fc
      | t ys => obtain ⟨q, ws, e, _⟩ := ky; rw [e] at fa; simp [flatV] at fa
      | l ys => obtain ⟨q, ws, e, _⟩ := ky; rw [e] at fa; simp [flatV] at fa
    | t xs =>
      obtain ⟨p, vs, rfl, _⟩ := kx
      cases rv; cases rw'
      rw [hb]; exact SeqAt.EqAt.same _
    | l xs =>
      obtain ⟨p, vs, rfl, _⟩ := kx
      cases rv; cases rw'
      rw [hb]; exact SeqAt.EqAt.same _
  · have kx := kd_rep r hx
    have ky := kd_rep r hy
    generalize kd σ x = k1 at h kx
    generalize kd σ y = k2 at h ky
    cases k1 with
    | o => cases h
    | s a =>
      obtain ⟨rfl, fa⟩ := kx
      cases k2 with
      | o => cases h
      | s c => obtain ⟨rfl, fc⟩ := ky; cases h; exact eqAt_V rv rw' fa fc
      | t ys =>
        obtain ⟨q, ws, rfl, h2, r2⟩ := ky
        cases h; cases rw'
        obtain ⟨its, _, hq, _⟩ := L2.Inv.tuple I (SqT.of (K := X.K) h2)
        exact (sc_tup_eqAt fa rv hq hu0).1
      | l ys =>
        obtain ⟨q, ws, rfl, h2, r2⟩ := ky
        cases h; cases rw'
        obtain ⟨its, _, pl, _⟩ := L2.Inv.list I (SqL.of (K := X.K) h2)
        exact sc_list_eqAt fa rv pl.isList hu0
    | t xs =>
      obtain ⟨p, vs, rfl, h1, r1⟩ := kx
      cases rv
      cases k2 with
      | o => cases h
      | s c =>
        obtain ⟨rfl, fc⟩ := ky; cases h
        obtain ⟨its, _, hp, _⟩ := L2.Inv.tuple I (SqT.of (K := X.K) h1)
        exact (sc_tup_eqAt fc rw' hp hu0).2.1
      | t ys => obtain ⟨q, ws, rfl, _⟩ := ky; cases rw'; exact .of_refs (fun e => hvw (by rw [e])) rc
      | l ys => obtain ⟨q, ws, rfl, _⟩ := ky; cases rw'; exact .of_refs (fun e => hvw (by rw [e])) rc
    | l xs =>
      obtain ⟨p, vs, rfl, h1, r1⟩ := kx
      cases rv
      cases k2 with
      | o => cases h
      | s c =>
        obtain ⟨rfl, fc⟩ := ky; cases h
        obtain ⟨its, _, pl, _⟩ := L2.Inv.list I (SqL.of (K := X.K) h1)
        exact sc_list_eqAt2 fc rw' pl.isList hu0
      | t ys => obtain ⟨q, ws, rfl, _⟩ := ky; cases rw'; exact .of_refs (fun e => hvw (by rw [e])) rc
      | l ys => obtain ⟨q, ws, rfl, _⟩ := ky; cases rw'; exact .of_refs (fun e => hvw (by rw [e])) rc
theorem eqD_at (I : Inv X pins st H s) (r : Rel T μ H σ) : ∀ (n : Nat) (A : Around) (x y : D) (v w : V) (v' w' : Value) (b : Bool), A.units + n + 1 < cLine → Rep T μ H x v → Rep T μ H y w → RelV v v' → RelV w w' → eqD σ n x y = some b → SeqAt.EqAt A s v' w' b
  | 0, A, x, y, v, w, v', w', b, hu, hx, hy, rv, rw', h => eqK_at I r (by omega) (fun _ _ _ _ _ _ _ _ _ _ _ z => by cases z) (fun _ _ _ _ _ _ z => by cases z) hx hy rv rw' h
  | n + 1, A, x, y, v, w, v', w', b, hu, hx, hy, rv, rw', h => eqK_at I r (by omega) (fun x y v w v' w' b a1 a2 a3 a4 a5 => eqD_at I r n A.in1 x y v w v' w' b (by show A.units + 1 + n + 1 < cLine; omega) a1 a2 a3 a4 a5) (fun x y v b a1 a2 a3 => eqD_same r n x y v b a1 a2 a3) hx hy rv rw' h
theorem rcD {A : Around} (I : Inv X pins st H s) (r : Rel T μ H σ) (n : Nat) (hu : A.units + n + 1 < cLine) {x y : D} {v w : V} {v' w' : Value} {b : Bool} (hx : Rep T μ H x v) (hy : Rep T μ H y w) (rv : RelV v v') (rw' : RelV w w') (h : eqD σ n x y = some b) : RcBoth A s v' w' b := by
  cases n with
  | zero => exact rcK I r (by omega) (fun _ _ _ _ _ _ _ _ _ _ _ z => by cases z) hx hy rv rw' h
  | succ n => exact rcK I r (by omega) (fun x y v w v' w' b a1 a2 a3 a4 a5 => eqD_at I r n A.in1 x y v w v' w' b (by show A.units + 1 + n + 1 < cLine; omega) a1 a2 a3 a4 a5) hx hy rv rw' h
end
end L4

namespace L4
open PySem PySem.Spec PyProof.Rows L2

/-! ### == and != -/
section
variable {T : Tb} {X : Cx} {pins : List (Addr × Obj)} {st : St} {μ : List Addr} {H : Hp} {s : Shared} {σ : Sto}
def oEq (x y : D) : M D := fun σ => match eqD σ 8 x y with
  | some b => .ok (.bl b) σ
  | none => .bad
def oNe (x y : D) : M D := fun σ => match eqD σ 8 x y with
  | some b => .ok (.bl (!b)) σ
  | none => .bad
theorem op_eqD (hu : X.A.units + 9 < cLine) : OpR X (compareOp .Eq) (rD T oEq) := by
  intro pins s st H v u v' u' Q I rv ru h
  obtain ⟨E, μ, σ, x, y, r, hx, hy, hp⟩ := h
  unfold oEq at hp
  cases e : eqD σ 8 x y with
  | none => rw [e] at hp; exact hp.elim
  | some b =>
    rw [e] at hp
    have := (rcD I r 8 (by omega) hx hy rv ru e).1 X.prog X.w X.xe (EP X pins st Q) ⟨.bl b, H, I, rfl, Post.here hp r (by rw [Rep])⟩
    exact this
theorem op_neD (hu : X.A.units + 9 < cLine) : OpR X (compareOp .NotEq) (rD T oNe) := by
  intro pins s st H v u v' u' Q I rv ru h
  obtain ⟨E, μ, σ, x, y, r, hx, hy, hp⟩ := h
  unfold oNe at hp
  cases e : eqD σ 8 x y with
  | none => rw [e] at hp; exact hp.elim
  | some b =>
    rw [e] at hp
    have := (rcD I r 8 (by omega) hx hy rv ru e).2 X.prog X.w X.xe (EP X pins st Q) ⟨.bl (!b), H, I, rfl, Post.here hp r (by rw [Rep])⟩
    exact this
/-- is None -/
def oIsN (x y : D) : M D := fun σ => match y with
  | .non => (match x with
    | .non => .ok (.bl true) σ
    | _ => .ok (.bl false) σ)
  | _ => .bad
def oNotN (x y : D) : M D := fun σ => match y with
  | .non => (match x with
    | .non => .ok (.bl false) σ
    | _ => .ok (.bl true) σ)
  | _ => .bad
theorem non_iff {x : D} {v : V} (h : Rep T μ H x v) : decide (v = .non) = (match x with | .non => true | _ => false) := by
  cases x with
  | non => rw [Rep] at h; subst h; rfl
  | tup ds => rw [Rep] at h; obtain ⟨p, _, rfl, _⟩ := h; simp
  | scr ds => rw [Rep] at h; obtain ⟨p, rfl, _⟩ := h; simp
  | ref ds => rw [Rep] at h; obtain ⟨p, rfl, _⟩ := h; simp
  | lst ds => rw [Rep] at h; obtain ⟨p, _, rfl, _⟩ := h; simp
  | dic ks ds => rw [Rep] at h; obtain ⟨p, _, rfl, _⟩ := h; simp
  | obj c ks ds => rw [Rep] at h; obtain ⟨p, _, _, rfl, _⟩ := h; simp
  | exn c => rw [Rep] at h; obtain ⟨p, _, rfl, _⟩ := h; simp
  | _ => rw [Rep] at h; subst h; simp
theorem snd_isN : SndOp T (fun x y H Q => y = .non ∧ Q (.bl (decide (x = .non))) H) oIsN := by
  intro E μ H σ x y v u Q r p q h
  cases y with
  | non =>
    refine ⟨by rw [Rep] at q; exact q, ?_⟩
    rw [non_iff p]
    cases x <;> exact Post.here h r (by rw [Rep])
  | _ => exact h.elim

/-! ### places -/
theorem atI_rep {ds : List D} {vs : List V} {k : Int} {d : D} (r : RepL T μ H ds vs) (h : atI ds k = some d) : ∃ v, atI vs k = some v ∧ Rep T μ H d v := by
  unfold atI at h ⊢
  rw [← r.length]
  cases e : ixN ds.length k with
  | none => rw [e] at h; cases h
  | some j => rw [e] at h; exact r.get h
theorem repl_ints : ∀ (ns : List Int), RepL T μ H (ns.map D.int) (ns.map V.int)
  | [] => RepL.nil
  | n :: ns => RepL.cons (by rw [Rep]) (repl_ints ns)
def seqOf (σ : Sto) : D → Option (List D)
  | .tup xs => some xs
  | .scr ns => some (ns.map D.int)
  | .ref n => lstAt σ n
  | .lst xs => some xs
  | _ => none
def oIx (x i : D) : M D := fun σ => match i with
  | .int k => (match seqOf σ x with
    | some xs => (match atI xs k with
      | some d => .ok d σ
      | none => .bad)
    | none => .bad)
  | _ => .bad
/-- a sequence read -/
theorem seq_rep (r : Rel T μ H σ) {x : D} {v : V} {xs : List D} (h : Rep T μ H x v) (e : seqOf σ x = some xs) : ∃ p vs, v = .ref p ∧ RepL T μ H xs vs ∧ (SqL T.K H p vs ∨ SqT T.K H p vs) := by
  cases x with
  | tup ds => cases e; rw [Rep] at h; obtain ⟨p, vs, rfl, h1, h2⟩ := h; exact ⟨p, vs, rfl, h2, .inr (SqT.of h1)⟩
  | scr ns => cases e; rw [Rep] at h; obtain ⟨p, rfl, h1⟩ := h; exact ⟨p, _, rfl, repl_ints ns, .inl h1.seq⟩
  | ref n => obtain ⟨a, vs, rfl, _, h1, h2⟩ := r.lst h e; exact ⟨a, vs, rfl, h2, .inl (SqL.of h1)⟩
  | lst ds => cases e; rw [Rep] at h; obtain ⟨p, vs, rfl, _, h1, h2⟩ := h; exact ⟨p, vs, rfl, h2, .inl (SqL.of h1)⟩
  | _ => cases e
theorem snd_ix (hK : T.K = X.K) : SndOp T (fun x y H Q => rIxL X.K x y H Q ∨ rIxT X.K x y H Q) oIx := by
  intro E μ H σ x y v u Q r p q h
  cases y with
  | int k =>
    unfold oIx at h
    cases e : seqOf σ x with
    | none => simp only [e] at h; exact h.elim
    | some xs =>
      simp only [e] at h
      cases e2 : atI xs k with
      | none => rw [e2] at h; exact h.elim
      | some d =>
        rw [e2] at h
        obtain ⟨a, vs, rfl, h1, h2⟩ := seq_rep r p e
        obtain ⟨w, h3, h4⟩ := atI_rep h1 e2
        rw [hK] at h2
        rcases h2 with h2 | h2
        · exact .inl ⟨a, vs, k, w, rfl, int_of q, h2, h3, Post.here h r h4⟩
        · exact .inr ⟨a, vs, k, w, rfl, int_of q, h2, h3, Post.here h r h4⟩
  | _ => exact h.elim
theorem ix_D : IxR X (fun x y H Q => rIxL X.K x y H Q ∨ rIxT X.K x y H Q) := ix_list.or ix_tup

/-! ### in -/
def isF (d : D) : Bool := (sc d).isSome
def eqF (x y : D) : Bool := match sc x, sc y with
  | some a, some b => eqV a b
  | _, _ => false

/-! ### len, list, tuple, count, append -/
def oLen (xs : List D) : M D := fun σ => match xs with
  | [x] => (match seqOf σ x with
    | some ys => .ok (.int ys.length) σ
    | none => .bad)
  | _ => .bad
theorem snd_len (hK : T.K = X.K) : SndCall T (fun xs H Q => ∃ p ys, xs = [.ref p] ∧ (SqL X.K H p ys ∨ SqT X.K H p ys) ∧ Q (.int ys.length) H) oLen := by
  intro E μ H σ xs vs Q r p h
  match xs with
  | [] => exact h.elim
  | [x] =>
    rw [RepL] at p
    obtain ⟨v, w, rfl, p1, p2⟩ := p
    rw [RepL] at p2; subst p2
    unfold oLen at h
    cases e : seqOf σ x with
    | none => simp only [e] at h; exact h.elim
    | some ys =>
      simp only [e] at h
      obtain ⟨b, vs, rfl, h1, h2⟩ := seq_rep r p1 e
      rw [hK] at h2
      exact ⟨b, vs, rfl, h2, by rw [← h1.length]; exact Post.here h r (by rw [Rep])⟩
  | _ :: _ :: _ => exact h.elim
def oList (xs : List D) : M D := fun σ => match xs with
  | [x] => (match seqOf σ x with
    | some ys => mkLst ys σ
    | none => .bad)
  | _ => .bad
theorem snd_list (hK : T.K = X.K) : SndCall T (fun xs H Q => ∃ p ys, xs = [.ref p] ∧ (SqL X.K H p ys ∨ SqT X.K H p ys) ∧ ∀ l, H l = none → Q (.ref l) (upd H l (.lst ys))) oList := by
  intro E μ H σ xs vs Q r p h
  match xs with
  | [] => exact h.elim
  | [x] =>
    rw [RepL] at p
    obtain ⟨v, w, rfl, p1, p2⟩ := p
    rw [RepL] at p2; subst p2
    unfold oList at h
    cases e : seqOf σ x with
    | none => simp only [e] at h; exact h.elim
    | some ys =>
      simp only [e] at h
      obtain ⟨b, vs, rfl, h1, h2⟩ := seq_rep r p1 e
      rw [hK] at h2
      exact ⟨b, vs, rfl, h2, fun l hl => new_lst h r h1 hl⟩
  | _ :: _ :: _ => exact h.elim
def oTuple (xs : List D) : M D := fun σ => match xs with
  | [x] => (match seqOf σ x with
    | some ys => .ok (.tup ys) σ
    | none => .bad)
  | _ => .bad
end

/-! ### calls of builtins -/
def eCall (o : List D → M D) (fs : Ev → M (List D)) : Ev → M D := fun ρ => bnd (fs ρ) o
section
variable {T : Tb} {X : Cx} {x : Str} {p pos : Pos} {e : Expr} {es : List Expr} {fs : Ev → M (List D)} {id ty : String} {r : List V → Hp → VK → Prop} {o : List D → M D}
theorem callD (hs : SndCall T r o) {st : St} {H : Hp} {Q : VK} (h : tF T X (eCall o fs) st H Q) : tCB r (tL T X fs) st H Q := by
  obtain ⟨μ, ρ, σ, he, hr, hp⟩ := h
  exact ⟨μ, ρ, σ, he, hr, hp.bind fun ds σ1 μ1 vs H1 _ e1 r1 p1 q1 => hs _ μ1 H1 σ1 ds vs Q r1 p1 q1⟩
theorem fe_callB (hc : CallR X (.builtin id) r) (hs : SndCall T r o) (hg : Gl X x) (hm : X.mg x = none) (hv : bootBuiltins x = some (.builtin id)) (ha : FA T X (e :: es) fs) (hn : x ≠ "__name__" := by decide) (hdb : (x == ("__debug__" : Str)) = false := by decide)
    (he : starEach (e :: es) X.env = (false, eval e X.env) :: starEach es X.env := by rfl) (hpl : (backTo pos (starEach es X.env)).any (·.1) = false := by rfl) : FE T X (.Call (.Name x p) (e :: es) [] pos) (eCall o fs) :=
  fun pins s st H Q I h => pe_callB hc hg hm hv ha hn hdb he hpl pins s st H Q I (callD hs h)
theorem fe_callTy (hc : CallR X (.type ty) r) (hs : SndCall T r o) (hg : Gl X x) (hm : X.mg x = none) (hv : bootBuiltins x = some (.type ty)) (ha : FA T X (e :: es) fs) (hn : x ≠ "__name__" := by decide) (hdb : (x == ("__debug__" : Str)) = false := by decide)
    (he : starEach (e :: es) X.env = (false, eval e X.env) :: starEach es X.env := by rfl) (hpl : (backTo pos (starEach es X.env)).any (·.1) = false := by rfl) : FE T X (.Call (.Name x p) (e :: es) [] pos) (eCall o fs) :=
  fun pins s st H Q I h => pe_callTy hc hg hm hv ha hn hdb he hpl pins s st H Q I (callD hs h)
end

/-! ### methods of lists -/
def lsOf (σ : Sto) : D → Option (List D)
  | .ref n => lstAt σ n
  | .lst xs => some xs
  | _ => none
theorem Rel.ls {T : Tb} {μ : List Addr} {H : Hp} {σ : Sto} (r : Rel T μ H σ) {x : D} {v : V} {xs : List D} (h : Rep T μ H x v) (e : lsOf σ x = some xs) : ∃ a vs, v = .ref a ∧ H a = some (.lst vs) ∧ RepL T μ H xs vs := by
  cases x with
  | ref n => obtain ⟨a, vs, h1, _, h2, h3⟩ := r.lst h e; exact ⟨a, vs, h1, h2, h3⟩
  | lst ys => cases e; rw [Rep] at h; obtain ⟨a, vs, h1, _, h2, h3⟩ := h; exact ⟨a, vs, h1, h2, h3⟩
  | _ => cases e
def methK (o : D → List D → M D) (m : M (List D)) (x : D) : M D := fun σ => match lsOf σ x with
  | some _ => bnd m (o x) σ
  | none => .bad
def eMeth (o : D → List D → M D) (f : Ev → M D) (fs : Ev → M (List D)) : Ev → M D := fun ρ => bnd (f ρ) (methK o (fs ρ))
def SndMt (T : Tb) (r : V → List V → Hp → VK → Prop) (o : D → List D → M D) : Prop := ∀ (E : XK) μ H σ x xs v vs Q, Rel T μ H σ → Rep T μ H x v → RepL T μ H xs vs → Post T E (Rep T) μ H (o x xs σ) Q → r v vs H Q
def oAppend (x : D) (xs : List D) : M D := fun σ => match x, xs with
  | .ref n, [y] => (match lstAt σ n with
    | some ys => if ys.length < cap then .ok .non (σ.set n (.lst (ys ++ [y]))) else .bad
    | none => .bad)
  | _, _ => .bad
section
variable {T : Tb} {X : Cx} {o e : Expr} {es : List Expr} {f : Ev → M D} {fs : Ev → M (List D)} {name : Str} {apos cpos : Pos} {id : String} {r : V → List V → Hp → VK → Prop} {g : D → List D → M D}
theorem fe_meth (pa : PlainAttrs "list") (slot : Slot "list" name id) (hty : typeOf (.builtin id) = pure (.type "method_descriptor")) (hm : MtR X id r) (hs : SndMt T r g) (ho : FE T X o f) (ha : FA T X (e :: es) fs)
    (hbase : attributeBase o name X.env (eval o X.env) = eval o X.env := by rfl)
    (hfew : ((backTo cpos (starEach (e :: es) X.env)).all (fun x => !x.1) && (backToKw cpos (keywordEach [] X.env)).all (fun x => x.1.isSome)
      && decide ((e :: es).length + ([] : List Keyword).length + (if ([] : List Keyword).isEmpty then 0 else 1) < 30)) = true := by rfl)
    (hline : (apos.endLine == cpos.line) = true := by rfl) (hst : starEach (e :: es) X.env = (false, eval e X.env) :: starEach es X.env := by rfl) (hplain : (backTo cpos (starEach es X.env)).any (·.1) = false := by rfl) :
    FE T X (.Call (.Attribute o name apos) (e :: es) [] cpos) (eMeth g f fs) := by
  intro pins s st H Q I h
  refine pe_bm pa slot hty hm ho ha hbase hfew hline hst hplain pins s st H Q I ?_
  obtain ⟨μ, ρ, σ, he, hr, hp⟩ := h
  refine ⟨μ, ρ, σ, he, hr, hp.bind fun x σ1 μ1 v H1 _ e1 r1 p1 q1 => ?_⟩
  unfold methK at q1
  cases el : lsOf σ1 x with
  | none => rw [el] at q1; exact q1.elim
  | some xs =>
    rw [el] at q1
    obtain ⟨a, vs, rfl, h1, h2⟩ := r1.ls p1 el
    refine ⟨.inl ⟨rfl, vs, SqL.of h1⟩, μ1, ρ, σ1, he.mono e1, r1, q1.bind fun ds σ2 μ2 ws H2 _ e2 r2 p2 q2 => ?_⟩
    exact hs _ μ2 H2 σ2 x ds (.ref a) ws Q r2 (Rep.mono e2 _ _ p1) p2 q2
theorem snd_append : SndMt T rAppend oAppend := by
  intro E μ H σ x xs v vs Q r p q h
  cases x with
  | ref n =>
    match xs with
    | [] => exact h.elim
    | [y] =>
      rw [RepL] at q
      obtain ⟨w, z, rfl, q1, q2⟩ := q
      rw [RepL] at q2; subst q2
      unfold oAppend at h
      cases el : lstAt σ n with
      | none => simp only [el] at h; exact h.elim
      | some ys =>
        simp only [el] at h
        by_cases hc : ys.length < cap
        · rw [if_pos hc] at h
          obtain ⟨a, vs, rfl, hn, h1, h2⟩ := r.lst p el
          have wr := r.write (o := .lst (vs ++ [w])) (ob := .lst (ys ++ [y])) hn ⟨_, upd_same, by
            have ex : Ext μ H μ (upd H a (.lst (vs ++ [w]))) := ext_write (List.mem_of_getElem? hn) h1 (fun _ z => by cases z) (fun _ _ z => by cases z)
            exact RepL.append (RepL.mono ex _ _ h2) (RepL.cons (Rep.mono ex _ _ q1) RepL.nil)⟩
          exact ⟨a, vs, w, rfl, rfl, h1, by rw [← h2.length]; exact cap_lt hc, h _ _ _ wr.1 wr.2 (by rw [Rep])⟩
        · rw [if_neg hc] at h; exact h.elim
    | _ :: _ :: _ => exact h.elim
  | _ => exact h.elim
end
end L4

namespace L4
open PySem PySem.Spec PyProof.Rows L2

/-! ### isinstance against a built-in type -/
inductive BT where
  | int | bool | str | tuple | list | dict
def BT.nm : BT → String
  | .int => "int" | .bool => "bool" | .str => "str" | .tuple => "tuple" | .list => "list" | .dict => "dict"
def isBT (σ : Sto) (c : BT) : D → Option Bool
  | .non => some false
  | .bl _ => some (match c with | .int => true | .bool => true | _ => false)
  | .int _ => some (match c with | .int => true | _ => false)
  | .str _ => some (match c with | .str => true | _ => false)
  | .tup _ => some (match c with | .tuple => true | _ => false)
  | .scr _ => none
  | .lst _ => some (match c with | .list => true | _ => false)
  | .dic _ _ => some (match c with | .dict => true | _ => false)
  | .obj _ _ _ => none
  | .exn _ => none
  | .ref n => match σ[n]? with
    | some (.lst _) => some (match c with | .list => true | _ => false)
    | some (.dic _) => some (match c with | .dict => true | _ => false)
    | _ => none
def oIsB (c : BT) (x : D) : M D := fun σ => match isBT σ c x with
  | some b => .ok (.bl b) σ
  | none => .bad
section
variable {T : Tb} {X : Cx}
def rIsI (K : PySem.W.Frag) (c : String) : List V → Hp → VK → Prop := fun xs H Q => ∃ x t b, xs = [x, .ty c] ∧ TyOf K H x t ∧ PySem.W.kitOne K t (.type c) = some b ∧ Q (.bl b) H
theorem call_isI (c : String) : CallR X (.builtin "isinstance") (rIsI X.K c) := by
  intro pins s st H xs us Q I r h
  obtain ⟨x, t, b, rfl, ty, e, q⟩ := h
  obtain ⟨u, u2, rfl, ru, ru2⟩ := vals2 r
  cases ru2
  exact isinst_ok I ru ty e fun tk => ⟨.bl b, H, I.tok _, rfl, q⟩
theorem ty_of {μ : List Addr} {H : Hp} {σ : Sto} {x : D} {v : V} {c : BT} {b : Bool} (r : Rel T μ H σ) (p : Rep T μ H x v) (h : isBT σ c x = some b) : ∃ t, TyOf X.K H v t ∧ PySem.W.kitOne X.K t (.type c.nm) = some b := by
  cases x with
  | non => rw [Rep] at p; subst p; refine ⟨_, .non, ?_⟩; cases c <;> cases h <;> rfl
  | bl i => rw [Rep] at p; subst p; refine ⟨_, .bl i, ?_⟩; cases c <;> cases h <;> rfl
  | int i => rw [Rep] at p; subst p; refine ⟨_, .int i, ?_⟩; cases c <;> cases h <;> rfl
  | str i => rw [Rep] at p; subst p; refine ⟨_, .str i, ?_⟩; cases c <;> cases h <;> rfl
  | tup ds => rw [Rep] at p; obtain ⟨q, vs, rfl, h1, _⟩ := p; refine ⟨_, .tup h1, ?_⟩; cases c <;> cases h <;> rfl
  | scr ns => cases h
  | lst ds => rw [Rep] at p; obtain ⟨q, vs, rfl, _, h1, _⟩ := p; refine ⟨_, .lst h1, ?_⟩; cases c <;> cases h <;> rfl
  | dic ks ds => rw [Rep] at p; obtain ⟨q, vs, rfl, _, h1, _⟩ := p; refine ⟨_, .dK h1, ?_⟩; cases c <;> cases h <;> rfl
  | obj c' ks ds => cases h
  | exn c' => cases h
  | ref n =>
    unfold isBT at h; dsimp only at h
    cases e : σ[n]? with
    | none => rw [e] at h; cases h
    | some o =>
      rw [e] at h
      obtain ⟨a, rfl, _, h2⟩ := r.at p e
      cases o with
      | lst xs => obtain ⟨vs, h3, _⟩ := h2; refine ⟨_, .lst h3, ?_⟩; cases c <;> cases h <;> rfl
      | dic xs => obtain ⟨vs, h3, _⟩ := h2; refine ⟨_, .dK h3, ?_⟩; cases c <;> cases h <;> rfl
      | ins c' fs => cases h
theorem fe_isB (c : BT) {tn : Str} {e : Expr} {f : Ev → M D} {p p2 pos : Pos} (he : FE T X e f) (hg : Gl X "isinstance") (hm : X.mg "isinstance" = none) (hg2 : Gl X tn) (hm2 : X.mg tn = none) (hv2 : bootBuiltins tn = some (.type c.nm)) (hn2 : tn ≠ "__name__" := by decide) (hd2 : (tn == ("__debug__" : Str)) = false := by decide)
    (hs : starEach [e, .Name tn p2] X.env = (false, eval e X.env) :: starEach [.Name tn p2] X.env := by rfl) (hpl : (backTo pos (starEach [.Name tn p2] X.env)).any (·.1) = false := by rfl) :
    FE T X (.Call (.Name "isinstance" p) [e, .Name tn p2] [] pos) (eUn (oIsB c) f) := by
  intro pins s st H Q I h
  refine pe_callB (call_isI c.nm) hg hm boot_isinstance (pa_cons he (pa_cons (pe_bltn hg2 hm2 hv2 (v := .ty c.nm) rfl hn2 hd2) pa_nil) hs) (by decide) (by decide) hs hpl pins s st H Q I ?_
  obtain ⟨μ, ρ, σ, hE, hr, hp⟩ := h
  refine ⟨μ, ρ, σ, hE, hr, hp.bind fun x σ1 μ1 v H1 _ e1 r1 p1 q1 => ?_⟩
  unfold oIsB at q1
  cases eb : isBT σ1 c x with
  | none => rw [eb] at q1; exact q1.elim
  | some b =>
    rw [eb] at q1
    obtain ⟨t, h1, h2⟩ := ty_of (X := X) r1 p1 eb
    exact ⟨v, t, b, rfl, h1, h2, Post.here q1 r1 (by rw [Rep])⟩
end

end L4

namespace L4
open PySem PySem.Spec PyProof.Rows L2

/-! ### statements -/
def sNil : Ev → M Fl := fun ρ => ret (.nx ρ)
def seqK (h : Ev → M Fl) : Fl → M Fl
  | .nx ρ' => h ρ'
  | .rt d => ret (.rt d)
  | .bk ρ' => ret (.bk ρ')
  | .ct ρ' => ret (.ct ρ')
  | .xc ρ' x => ret (.xc ρ' x)
def sSeq (g h : Ev → M Fl) : Ev → M Fl := fun ρ => bnd (g ρ) (seqK h)
def retK : D → M Fl := fun d => ret (.rt d)
def sRet (f : Ev → M D) : Ev → M Fl := fun ρ => xs ρ (f ρ) retK
def expK (ρ : Ev) : D → M Fl := fun _ => ret (.nx ρ)
def sExp (f : Ev → M D) : Ev → M Fl := fun ρ => xs ρ (f ρ) (expK ρ)
def setK (i : Nat) (ρ : Ev) : D → M Fl := fun d => ret (.nx (ρ.set i (some d)))
def sSet (i : Nat) (f : Ev → M D) : Ev → M Fl := fun ρ => xs ρ (f ρ) (setK i ρ)
def sIf (t : Ev → M Bool) (a b : Ev → M Fl) : Ev → M Fl := fun ρ => xs ρ (t ρ) (ifK (a ρ) (b ρ))
section
variable {T : Tb} {X : Cx} {st' : Stmt} {rest : List Stmt} {g h : Ev → M Fl} {e : Expr} {f : Ev → M D} {pos : Pos}
theorem fss_nil : FSs T X [] sNil := by
  intro pins s st H D I hw
  obtain ⟨μ, ρ, σ, hE, hr, hp⟩ := hw
  exact pss_nil pins s st H D I (Post.here (g := Gl2.nx st) hp hr hE)
theorem seq_end {μ : List Addr} {H : Hp} {σ : Sto} {fl : Fl} {gl : Gl2} {D : Ends} {N : St → Hp → Prop} (r : Rel T μ H σ) (q : RFl T μ H fl gl) (k : Fl → M Fl)
    (hn : ∀ ρ, fl = .nx ρ → ∀ st, gl = .nx st → ERep T μ H ρ st → N st H) (ho : (∀ ρ, fl ≠ .nx ρ) → Post T EN (RFl T) μ H (.ok fl σ) (EndQ X D)) : EndQ X { D with nx := N } gl H := by
  cases fl with
  | nx ρ => cases gl with
    | nx st => exact hn ρ rfl st rfl q
    | _ => exact q.elim
  | rt d => cases gl with
    | rt v => have z := Post.here (g := Gl2.rt v) (ho fun _ z => by cases z) r q; exact z
    | _ => exact q.elim
  | bk ρ => cases gl with
    | bk v => have z := Post.here (g := Gl2.bk v) (ho fun _ z => by cases z) r q; exact z
    | _ => exact q.elim
  | ct ρ => cases gl with
    | ct v => have z := Post.here (g := Gl2.ct v) (ho fun _ z => by cases z) r q; exact z
    | _ => exact q.elim
  | xc ρ x => cases gl with
    | xc v c fd => have z := Post.here (g := Gl2.xc v c fd) (ho fun _ z => by cases z) r q; exact z
    | _ => exact q.elim
theorem fss_cons (h1 : FS T X st' g) (h2 : FSs T X rest h) : FSs T X (st' :: rest) (sSeq g h) := by
  intro pins s st H D I hw
  refine pss_cons h1 h2 pins s st H D I ?_
  obtain ⟨μ, ρ, σ, hE, hr, hp⟩ := hw
  refine ⟨μ, ρ, σ, hE, hr, hp.bind fun fl σ1 μ1 gl H1 _ e1 r1 q1 p1 => ?_⟩
  refine seq_end (X := X) r1 q1 (fun _ => bad) (fun ρ' ef st1 eg he => ?_) (fun hn => ?_)
  · subst ef
    exact ⟨μ1, ρ', σ1, he, r1, p1⟩
  · cases fl with
    | nx ρ' => exact (hn ρ' rfl).elim
    | _ => exact p1
theorem fss_one (h1 : FS T X st' g) : FSs T X [st'] g := pss_one h1
theorem fs_ret (he : FE T X e f) : FS T X (.Return (some e) pos) (sRet f) := by
  intro pins s st H D I hw
  refine ps_ret he pins s st H D I ?_
  obtain ⟨μ, ρ, σ, hE, hr, hp⟩ := hw
  exact ⟨μ, ρ, σ, hE, hr, hp.xs hE fun d σ1 μ1 v H1 _ e1 r1 q1 p1 => Post.here (g := Gl2.rt v) p1 r1 q1⟩
theorem fs_expr (he : FE T X e f) (hs : swapsWith e none pos.line X.env = pure false := by rfl) : FS T X (.Expr e pos) (sExp f) := by
  intro pins s st H D I hw
  refine ps_expr he hs pins s st H D I ?_
  obtain ⟨μ, ρ, σ, hE, hr, hp⟩ := hw
  exact ⟨μ, ρ, σ, hE, hr, hp.xs hE fun d σ1 μ1 v H1 _ e1 r1 q1 p1 => Post.here (g := Gl2.nx st) p1 r1 (hE.mono e1)⟩
theorem fs_set {i : Nat} {x : Str} {pos' : Pos} (hN : X.N.Nodup) (hi : X.N[i]? = some x) (hx : Loc X.env.scope x) (he : FE T X e f) (hs : swapsWith e (some (.Name x pos')) pos.line X.env = pure false := by rfl) (hf : X.fn x = true ∨ X.env.scope.names.lookup x = some .local := by first | exact .inl rfl | exact .inr rfl | assumption) :
    FS T X (.Assign [.Name x pos'] e pos) (sSet i f) := by
  intro pins s st H D I hw
  refine ps_set hN hi hx he hs hf pins s st H D I ?_
  obtain ⟨μ, ρ, σ, hE, hr, hp⟩ := hw
  exact ⟨μ, ρ, σ, hE, hr, hp.xs hE fun d σ1 μ1 v H1 _ e1 r1 q1 p1 => Post.here (g := Gl2.nx (st.set i (some v))) p1 r1 ((hE.mono e1).set i q1)⟩
theorem fs_if {c : Expr} {a b : List Stmt} {tc : Ev → M Bool} {ga gb : Ev → M Fl} (hc : FT T X c tc) (ha : FSs T X a ga) (hb : FSs T X b gb) : FS T X (.If c a b pos) (sIf tc ga gb) := by
  intro pins s st H D I hw
  refine ps_if hc ha hb pins s st H D I ?_
  obtain ⟨μ, ρ, σ, hE, hr, hp⟩ := hw
  refine ⟨μ, ρ, σ, hE, hr, hp.xs hE fun c σ1 μ1 v H1 _ e1 r1 q1 p1 => ?_⟩
  cases q1
  cases c with
  | true => unfold ifK at p1; rw [if_pos rfl] at p1 ⊢; exact ⟨μ1, ρ, σ1, hE.mono e1, r1, p1⟩
  | false => unfold ifK at p1; rw [if_neg Bool.false_ne_true] at p1 ⊢; exact ⟨μ1, ρ, σ1, hE.mono e1, r1, p1⟩

/-! ### targets -/
def gD (T : Tb) (tg : D → Ev → Option Ev) : TG := fun v st H Q => ∃ μ σ ρ d ρ', ERep T μ H ρ st ∧ Rel T μ H σ ∧ Rep T μ H d v ∧ tg d ρ = some ρ' ∧ ∀ st', ERep T μ H ρ' st' → Q st' H
def gsD (T : Tb) (tg : List D → Ev → Option Ev) : TGs := fun vs st H Q => ∃ μ σ ρ ds ρ', ERep T μ H ρ st ∧ Rel T μ H σ ∧ RepL T μ H ds vs ∧ tg ds ρ = some ρ' ∧ ∀ st', ERep T μ H ρ' st' → Q st' H
abbrev FG (T : Tb) (X : Cx) (t : Expr) (tg : D → Ev → Option Ev) : Prop := PG X t (gD T tg)
abbrev FGs (T : Tb) (X : Cx) (ts : List Expr) (tg : List D → Ev → Option Ev) : Prop := PGs X ts (gsD T tg)
def tgN (i : Nat) : D → Ev → Option Ev := fun d ρ => some (ρ.set i (some d))
def tgNil : List D → Ev → Option Ev
  | [], ρ => some ρ
  | _ :: _, _ => none
def tgCons (t : D → Ev → Option Ev) (u : List D → Ev → Option Ev) : List D → Ev → Option Ev
  | [], _ => none
  | d :: ds, ρ => (t d ρ).bind fun ρ' => u ds ρ'
def tgT (n : Nat) (t : List D → Ev → Option Ev) : D → Ev → Option Ev
  | .tup ds, ρ => if ds.length = n then t ds ρ else none
  | _, _ => none
theorem fg_name {i : Nat} {x : Str} (hN : X.N.Nodup) (hi : X.N[i]? = some x) (hx : Loc X.env.scope x) (hf : X.fn x = true ∨ X.env.scope.names.lookup x = some .local := by first | exact .inl rfl | exact .inr rfl | assumption) : FG T X (.Name x pos) (tgN i) := by
  intro pins s st H v u Q I r h
  obtain ⟨μ, σ, ρ, d, ρ', hE, hr, hd, ht, hq⟩ := h
  cases ht
  exact pg_name hN hi hx hf pins s st H v u Q I r (hq _ (hE.set i hd))
theorem fgs_nil : FGs T X [] tgNil := by
  intro pins s st H vs us Q I r h
  obtain ⟨μ, σ, ρ, ds, ρ', hE, hr, hd, ht, hq⟩ := h
  cases ds with
  | nil => cases ht; rw [RepL] at hd; subst hd; exact pgs_nil pins s st H [] us Q I r ⟨rfl, hq _ hE⟩
  | cons d ds => cases ht
theorem fgs_cons {es : List Expr} {t : D → Ev → Option Ev} {u : List D → Ev → Option Ev} (h1 : FG T X e t) (h2 : FGs T X es u)
    (hs : (assignEach (e :: es) X.env).map (·.2) = assign e X.env :: (assignEach es X.env).map (·.2) := by rfl) : FGs T X (e :: es) (tgCons t u) := by
  intro pins s st H vs us Q I r h
  obtain ⟨μ, σ, ρ, ds, ρ', hE, hr, hd, ht, hq⟩ := h
  cases ds with
  | nil => cases ht
  | cons d ds =>
    rw [RepL] at hd
    obtain ⟨v, w, rfl, hd1, hd2⟩ := hd
    obtain ⟨ρ1, e1, e2⟩ := Option.bind_eq_some_iff.mp ht
    refine pgs_cons h1 h2 hs pins s st H (v :: w) us Q I r ⟨v, w, rfl, μ, σ, ρ, d, ρ1, hE, hr, hd1, e1, fun st1 hE1 => ?_⟩
    exact ⟨μ, σ, ρ1, ds, ρ', hE1, hr, hd2, e2, hq⟩
theorem fg_tup {es : List Expr} {k : Nat} {t : List D → Ev → Option Ev} {n : Nat} (hc : X.calm = true) (h : FGs T X es t)
    (hn : (assignEach es X.env).length = n := by rfl) (hst : (assignEach es X.env).findIdx? (·.1) = none := by rfl) : FG T X (.Tuple es k pos) (tgT n t) := by
  intro pins s st H v u Q I r hw
  obtain ⟨μ, σ, ρ, d, ρ', hE, hr, hd, ht, hq⟩ := hw
  cases d with
  | tup ds =>
    have hd0 := hd
    rw [Rep] at hd
    obtain ⟨p, vs, rfl, h1, h2⟩ := hd
    unfold tgT at ht; dsimp only at ht
    by_cases hl : ds.length = n
    · rw [if_pos hl] at ht
      exact pg_tup hc h hn hst pins s st H (.ref p) u Q I r ⟨p, vs, rfl, SqT.of h1, by rw [← h2.length]; exact hl, μ, σ, ρ, ds, ρ', hE, hr, h2, ht, hq⟩
    · rw [if_neg hl] at ht; cases ht
  | _ => cases ht
def asgK (tg : D → Ev → Option Ev) (ρ : Ev) (d : D) : M Fl := match tg d ρ with
  | some ρ' => ret (.nx ρ')
  | none => bad
def sAsg (f : Ev → M D) (tg : D → Ev → Option Ev) : Ev → M Fl := fun ρ => xs ρ (f ρ) (asgK tg ρ)
/-- xs[i] = v, a list of the store -/
def oSetL (x i d : D) : M Unit := fun σ => match x, i with
  | .ref n, .int k => (match lstAt σ n with
    | some xs => (match ixN xs.length k with
      | some j => .ok () (σ.set n (.lst (xs.set j d)))
      | none => .bad)
    | none => .bad)
  | _, _ => .bad
def setL3 (ρ : Ev) (d x i : D) : M Fl := fun σ => match oSetL x i d σ with
  | .ok _ σ' => .ok (.nx ρ) σ'
  | _ => .bad
def setL2 (ρ : Ev) (fi : Ev → M D) (d x : D) : M Fl := xs ρ (fi ρ) (setL3 ρ d x)
def setL1 (ρ : Ev) (fo fi : Ev → M D) (d : D) : M Fl := xs ρ (fo ρ) (setL2 ρ fi d)
def sSetL (f fo fi : Ev → M D) : Ev → M Fl := fun ρ => xs ρ (f ρ) (setL1 ρ fo fi)
theorem fs_setL {o i : Expr} {fo fi : Ev → M D} {pos' : Pos} (he : FE T X e f) (ho : FE T X o fo) (hi : FE T X i fi)
    (ha : ∀ v, assign (.Subscript o i pos') X.env v = (do
      let ov ← holding [v] (eval o X.env)
      let iv ← holding [v, ov] (eval i X.env)
      standAt pos'
      holding [v, ov, iv] (setItem ov iv v)
      release [v, ov, iv] []) := by intro _; rfl)
    (hs : swapsWithSole [.Subscript o i pos'] e pos.line X.env = pure false := by rfl) (hw : swappedStores [.Subscript o i pos'] e X.env = pure none := by rfl)
    (h1 : (assignEach [.Subscript o i pos'] X.env).map (·.2) = [assign (.Subscript o i pos') X.env] := by rfl) : FS T X (.Assign [.Subscript o i pos'] e pos) (sSetL f fo fi) := by
  intro pins s st H D I hq
  refine ps_asg he (pg_sub ho hi set_list ha) hs hw h1 pins s st H D I ?_
  obtain ⟨μ, ρ, σ, hE, hr, hp⟩ := hq
  refine ⟨μ, ρ, σ, hE, hr, hp.xs hE fun d σ1 μ1 v H1 _ e1 r1 q1 p1 => ?_⟩
  refine ⟨μ1, ρ, σ1, hE.mono e1, r1, p1.xs (hE.mono e1) fun x σ2 μ2 vo H2 _ e2 r2 q2 p2 => ?_⟩
  refine ⟨μ2, ρ, σ2, (hE.mono e1).mono e2, r2, p2.xs ((hE.mono e1).mono e2) fun k σ3 μ3 vi H3 _ e3 r3 q3 p3 => ?_⟩
  have hd := Rep.mono e3 _ _ (Rep.mono e2 _ _ q1)
  have hx := Rep.mono e3 _ _ q2
  unfold setL3 oSetL at p3
  cases x with
  | ref n =>
    cases k with
    | int k =>
      dsimp only at p3
      cases el : lstAt σ3 n with
      | none => rw [el] at p3; exact p3.elim
      | some xs =>
        rw [el] at p3
        dsimp only at p3
        cases ej : ixN xs.length k with
        | none => rw [ej] at p3; exact p3.elim
        | some j =>
          rw [ej] at p3
          obtain ⟨a, vs, rfl, hn, h1, h2⟩ := r3.lst hx el
          have wr := r3.write (o := .lst (vs.set j v)) (ob := .lst (xs.set j d)) hn ⟨_, upd_same, by
            have ex : Ext μ3 H3 μ3 (upd H3 a (.lst (vs.set j v))) := ext_write (List.mem_of_getElem? hn) h1 (fun _ z => by cases z) (fun _ _ z => by cases z)
            exact RepL.set (Rep.mono ex _ _ hd) j (RepL.mono ex _ _ h2)⟩
          exact ⟨a, vs, k, j, rfl, int_of q3, h1, by rw [← h2.length]; exact ej, p3 _ (.nx st) _ wr.1 wr.2 (((hE.mono e1).mono e2).mono e3 |>.mono wr.1)⟩
    | _ => exact p3.elim
  | _ => exact p3.elim
end

end L4

namespace L4
open PySem PySem.Spec PyProof.Rows L2

/-! ### what a loop or a comprehension walks -/
inductive Src where
  | seq (ds : List D)
  | lref (n : Nat)
def Src.nx : Src → Nat → Sto → Option (Option D)
  | .seq ds, i, _ => some ds[i]?
  | .lref n, i, σ => (lstAt σ n).map fun xs => xs[i]?
def SrcOk (T : Tb) (μ0 : List Addr) (H0 : Hp) (src : Src) (J : It) : Prop := ∀ μ H σ i, Ext μ0 H0 μ H → Rel T μ H σ → match src.nx i σ with
  | none => True
  | some none => J.stop i H
  | some (some d) => J.go i H ∧ ∀ x H', J.yld i H x H' → H' = H ∧ Rep T μ H d x
def tI (T : Tb) (X : Cx) (f : Ev → M Src) : TI := fun st H R => ∃ μ ρ σ, ERep T μ H ρ st ∧ Rel T μ H σ ∧ Post T (XE X st) (SrcOk T) μ H (f ρ σ) R
abbrev FI (T : Tb) (X : Cx) (tg iter : Expr) (f : Ev → M Src) : Prop := PI X tg iter (tI T X f)
def rangeD (n : Nat) : List D := (List.range n).map fun (i : Nat) => D.int (i : Int)
def seqK2 (d : D) : M Src := fun σ => match d with
  | .tup ds => .ok (.seq ds) σ
  | .lst ds => .ok (.seq ds) σ
  | .scr ns => .ok (.seq (ns.map D.int)) σ
  | .ref n => (match lstAt σ n with
    | some _ => .ok (.lref n) σ
    | none => .bad)
  | _ => .bad
def srcS (f : Ev → M D) : Ev → M Src := fun ρ => bnd (f ρ) seqK2
noncomputable def small62 (j : Int) : Bool := hide (decide (-(2 ^ 62) ≤ j) && decide (j < 2 ^ 62))
noncomputable def rngK (d : D) : M Src := fun σ => match d with
  | .int j => if small62 j = true then .ok (.seq (rangeD j.toNat)) σ else .bad
  | _ => .bad
noncomputable def srcR (f : Ev → M D) : Ev → M Src := fun ρ => bnd (f ρ) rngK
section
variable {T : Tb} {X : Cx} {tg iter : Expr} {f : Ev → M D}
def iSeq (K : PySem.W.Frag) (tl : TE) : TI := fun σ H R => tl σ H fun x H1 => ∃ a, x = .ref a ∧ (((∃ xs, SqL K H1 a xs) ∧ R (Itl K a) H1) ∨ ((∃ xs, SqT K H1 a xs) ∧ R (Itt K a) H1))
theorem pi_seq {l : Expr} {tl : TE} (hl : PE X l tl) : PI X tg l (iSeq X.K tl) := by
  intro pins s σ H R I h
  refine thn (hl pins s σ H _ I h) fun v s1 ⟨x, H1, I1, r1, q1⟩ => ?_
  obtain ⟨a, e, q1⟩ := q1
  subst e
  cases r1
  rcases q1 with ⟨⟨xs, hq⟩, q⟩ | ⟨⟨xs, hq⟩, q⟩
  · obtain ⟨its, rv, p, hz⟩ := I1.list hq
    refine wpAny_pyIter_list p.isList ?_
    refine ⟨s1.heap.objs.size, [s1.heap.objs.size], _, _, H1, rfl, I1.kept (t' := s1.toks) fun b o e => Heap.get?_push_of_some _ e, turn_list a _, ⟨_, Heap.get?_push_size _ rfl, rfl, rfl⟩, fun b hb => ?_, q⟩
    have e : b = s1.heap.objs.size := by simpa using hb
    subst e
    exact I1.fpOk (Nat.le_refl _) (I1.hok.fresh (Nat.le_refl _))
  · obtain ⟨its, rv, p, hz⟩ := I1.tuple hq
    refine wpAny_pyIter_tuple (show s1.heap.IsTuple a its.toArray from p) ?_
    refine ⟨s1.heap.objs.size, [s1.heap.objs.size], _, _, H1, rfl, I1.kept (t' := s1.toks) fun b o e => Heap.get?_push_of_some _ e, turn_tuple a _, ⟨_, Heap.get?_push_size _ rfl, rfl, rfl⟩, fun b hb => ?_, q⟩
    have e : b = s1.heap.objs.size := by simpa using hb
    subst e
    exact I1.fpOk (Nat.le_refl _) (I1.hok.fresh (Nat.le_refl _))
theorem src_list {μ1 : List Addr} {H1 : Hp} {a : Addr} {ds : List D} {K : PySem.W.Frag} (h : ∀ μ2 H2, Ext μ1 H1 μ2 H2 → ∃ vs, SqL K H2 a vs ∧ RepL T μ2 H2 ds vs) : SrcOk T μ1 H1 (.seq ds) (Itl K a) := by
  intro μ2 H2 σ2 i ex r2
  obtain ⟨vs, h3, h4⟩ := h μ2 H2 ex
  show match some ds[i]? with | none => True | some none => _ | some (some d) => _
  cases e : ds[i]? with
  | none => exact ⟨vs, h3, by rw [← h4.length]; exact List.getElem?_eq_none_iff.mp e⟩
  | some d =>
    obtain ⟨v, hv1, hv2⟩ := h4.get e
    refine ⟨⟨vs, v, h3, hv1⟩, fun x H' y => ?_⟩
    obtain ⟨rfl, y⟩ := y
    have := y vs h3
    rw [hv1] at this; cases this
    exact ⟨rfl, hv2⟩
theorem src_tup {μ1 : List Addr} {H1 : Hp} {a : Addr} {ds : List D} {K : PySem.W.Frag} (h : ∀ μ2 H2, Ext μ1 H1 μ2 H2 → ∃ vs, SqT K H2 a vs ∧ RepL T μ2 H2 ds vs) : SrcOk T μ1 H1 (.seq ds) (Itt K a) := by
  intro μ2 H2 σ2 i ex r2
  obtain ⟨vs, h3, h4⟩ := h μ2 H2 ex
  show match some ds[i]? with | none => True | some none => _ | some (some d) => _
  cases e : ds[i]? with
  | none => exact ⟨vs, h3, by rw [← h4.length]; exact List.getElem?_eq_none_iff.mp e⟩
  | some d =>
    obtain ⟨v, hv1, hv2⟩ := h4.get e
    refine ⟨⟨vs, v, h3, hv1⟩, fun x H' y => ?_⟩
    obtain ⟨rfl, y⟩ := y
    have := y vs h3
    rw [hv1] at this; cases this
    exact ⟨rfl, hv2⟩
theorem fi_seq (hK : T.K = X.K) (h : FE T X iter f) : FI T X tg iter (srcS f) := by
  intro pins s st H R I hw
  refine pi_seq h pins s st H R I ?_
  obtain ⟨μ, ρ, σ, hE, hr, hp⟩ := hw
  refine ⟨μ, ρ, σ, hE, hr, hp.bind fun d σ1 μ1 v H1 _ e1 r1 q1 p1 => ?_⟩
  cases d with
  | tup ds =>
    rw [Rep] at q1
    obtain ⟨p, vs, rfl, h1, h2⟩ := q1
    exact ⟨p, rfl, .inr ⟨⟨vs, SqT.of h1⟩, Post.here (R := SrcOk T) p1 r1 (src_tup fun μ2 H2 ex => ⟨vs, SqT.of (ex.tup _ _ h1), RepL.mono ex _ _ h2⟩)⟩⟩
  | lst ds =>
    rw [Rep] at q1
    obtain ⟨p, vs, rfl, hn, h1, h2⟩ := q1
    exact ⟨p, rfl, .inl ⟨⟨vs, SqL.of h1⟩, Post.here (R := SrcOk T) p1 r1 (src_list fun μ2 H2 ex => ⟨vs, SqL.of (ex.keep _ _ h1 hn).1, RepL.mono ex _ _ h2⟩)⟩⟩
  | scr ns =>
    rw [Rep] at q1
    obtain ⟨p, rfl, h1⟩ := q1
    have hsc : ∀ μ2 H2, Ext μ1 H1 μ2 H2 → SqL X.K H2 p (ns.map V.int) := fun μ2 H2 ex => by
      have h2 : Rep T μ2 H2 (.scr ns) (.ref p) := Rep.mono ex _ _ (by rw [Rep]; exact ⟨p, rfl, h1⟩)
      rw [Rep] at h2
      obtain ⟨p', e', h3⟩ := h2
      cases e'
      rw [← hK]; exact h3.seq
    exact ⟨p, rfl, .inl ⟨⟨_, hsc _ _ (Ext.refl _ _)⟩, Post.here (R := SrcOk T) p1 r1 (src_list fun μ2 H2 ex => ⟨_, hsc μ2 H2 ex, repl_ints ns⟩)⟩⟩
  | ref n =>
    unfold seqK2 at p1
    dsimp only at p1
    cases el0 : lstAt σ1 n with
    | none => rw [el0] at p1; exact p1.elim
    | some xs =>
      rw [el0] at p1
      obtain ⟨a, vs, rfl, _, h1, h2⟩ := r1.lst q1 el0
      refine ⟨a, rfl, .inl ⟨⟨vs, SqL.of h1⟩, Post.here (R := SrcOk T) p1 r1 fun μ2 H2 σ2 i ex r2 => ?_⟩⟩
      show match (lstAt σ2 n).map (fun xs => xs[i]?) with | none => True | some none => _ | some (some d) => _
      cases el : lstAt σ2 n with
      | none => trivial
      | some ys =>
        obtain ⟨a', ws, ea, _, h3, h4⟩ := r2.lst (Rep.mono ex _ _ q1) el
        cases ea
        show match some (ys[i]?) with | none => True | some none => _ | some (some d) => _
        cases e : ys[i]? with
        | none => exact ⟨ws, SqL.of h3, by rw [← h4.length]; exact List.getElem?_eq_none_iff.mp e⟩
        | some d =>
          obtain ⟨v, hv1, hv2⟩ := h4.get e
          refine ⟨⟨ws, v, SqL.of h3, hv1⟩, fun x H' y => ?_⟩
          obtain ⟨rfl, y⟩ := y
          have := y ws (SqL.of h3)
          rw [hv1] at this; cases this
          exact ⟨rfl, hv2⟩
  | _ => exact p1.elim
theorem rangeD_get {n i : Nat} (h : i < n) : (rangeD n)[i]? = some (.int i) := by simp [rangeD, h]
theorem rangeD_len (n : Nat) : (rangeD n).length = n := by simp [rangeD]
theorem fi_range {a : Expr} {p pos : Pos} (hgl : Gl X "range") (hm : X.mg "range" = none) (ha : FE T X a f) (hst : starEach [a] X.env = [(false, eval a X.env)] := by rfl) : FI T X tg (.Call (.Name "range" p) [a] [] pos) (srcR f) := by
  intro pins s st H R I hw
  refine pi_range1 hgl hm (pa_cons ha pa_nil hst) hst pins s st H R I ?_
  obtain ⟨μ, ρ, σ, hE, hr, hp⟩ := hw
  refine ⟨μ, ρ, σ, hE, hr, hp.bind fun d σ1 μ1 v H1 _ e1 r1 q1 p1 => ?_⟩
  cases d with
  | int j =>
    rw [Rep] at q1
    subst q1
    unfold rngK at p1
    dsimp only at p1
    by_cases hj : small62 j = true
    · rw [if_pos hj] at p1
      simp only [small62, hide_eq, Bool.and_eq_true, decide_eq_true_eq] at hj
      refine ⟨j, rfl, hj.1, hj.2, Post.here (R := SrcOk T) p1 r1 fun μ2 H2 σ2 i ex r2 => ?_⟩
      show match some (rangeD j.toNat)[i]? with | none => True | some none => _ | some (some d) => _
      by_cases hi : i < j.toNat
      · rw [rangeD_get hi]
        refine ⟨hi, fun x H' y => ?_⟩
        obtain ⟨rfl, rfl⟩ := y
        exact ⟨rfl, by rw [Rep, Int.zero_add]⟩
      · rw [List.getElem?_eq_none_iff.mpr (by rw [rangeD_len]; omega)]
        exact Nat.not_lt.mp hi
    · rw [if_neg hj] at p1; exact p1.elim
  | _ => exact p1.elim
end

/-! ### loops -/
def loopK (k : Ev → M Fl) : Fl → M Fl
  | .nx ρ2 => k ρ2
  | .ct ρ2 => k ρ2
  | .bk ρ2 => ret (.nx ρ2)
  | .rt d => ret (.rt d)
  | .xc ρ x => ret (.xc ρ x)
def loop (tg : D → Ev → Option Ev) (body : Ev → M Fl) : List D → Ev → M Fl
  | [], ρ => ret (.nx ρ)
  | d :: ds, ρ => match tg d ρ with
    | none => bad
    | some ρ1 => bnd (body ρ1) (loopK (loop tg body ds))
def loopL (tg : D → Ev → Option Ev) (body : Ev → M Fl) (n : Nat) : Nat → Nat → Ev → M Fl
  | 0, _, _ => bad
  | k + 1, i, ρ => fun σ => match lstAt σ n with
    | none => .bad
    | some xs => match xs[i]? with
      | none => .ok (.nx ρ) σ
      | some d => match tg d ρ with
        | none => .bad
        | some ρ1 => bnd (body ρ1) (loopK (loopL tg body n k (i + 1))) σ
def forK (tg : D → Ev → Option Ev) (body : Ev → M Fl) (ρ : Ev) : Src → M Fl
  | .seq ds => loop tg body ds ρ
  | .lref n => loopL tg body n 1001 0 ρ
def sFor (src : Ev → M Src) (tg : D → Ev → Option Ev) (body : Ev → M Fl) : Ev → M Fl := fun ρ => xs ρ (src ρ) (forK tg body ρ)
section
variable {T : Tb} {X : Cx}
/-- what a turn hands on -/
theorem turn_end {μ1 : List Addr} {H1 : Hp} {σ1 : Sto} {fl : Fl} {gl : Gl2} {D : Ends} {k : Ev → M Fl} {N : St → Hp → Prop} (r1 : Rel T μ1 H1 σ1) (q1 : RFl T μ1 H1 fl gl) (p1 : Post T EN (RFl T) μ1 H1 (loopK k fl σ1) (EndQ X D))
    (hN : ∀ ρ2 st2, ERep T μ1 H1 ρ2 st2 → Post T EN (RFl T) μ1 H1 (k ρ2 σ1) (EndQ X D) → N st2 H1) : EndQ X { D with nx := N, ct := N, bk := D.nx } gl H1 := by
  cases fl with
  | nx ρ2 => cases gl with
    | nx st2 => exact hN ρ2 st2 q1 p1
    | _ => exact q1.elim
  | ct ρ2 => cases gl with
    | ct st2 => exact hN ρ2 st2 q1 p1
    | _ => exact q1.elim
  | bk ρ2 => cases gl with
    | bk st2 => have z : EndQ X D (Gl2.nx st2) H1 := Post.here (g := Gl2.nx st2) (d := Fl.nx ρ2) p1 r1 q1; exact z
    | _ => exact q1.elim
  | rt d2 => cases gl with
    | rt v2 => have z : EndQ X D (Gl2.rt v2) H1 := Post.here (g := Gl2.rt v2) (d := Fl.rt d2) p1 r1 q1; exact z
    | _ => exact q1.elim
  | xc ρ2 x => cases gl with
    | xc st2 c fd2 => have z : EndQ X D (Gl2.xc st2 c fd2) H1 := Post.here (g := Gl2.xc st2 c fd2) (d := Fl.xc ρ2 x) p1 r1 q1; exact z
    | _ => exact q1.elim
variable {tgt iter : Expr} {body : List Stmt} {src : Ev → M Src} {t : D → Ev → Option Ev} {g : Ev → M Fl} {pos : Pos}
theorem fs_for (hp : PassesOwn (model X.prog X.w) X.A X.env X.xe) (hc : X.calm = true) (hi : FI T X tgt iter src) (hg : FG T X tgt t) (hb : FSs T X body g)
    (hs : ∀ x, foldedSetIterable iter X.env x = pure x := by intro _; rfl) : FS T X (.For tgt iter body [] pos) (sFor src t g) := by
  intro pins s st H D I hq
  refine ps_for hp hc hi hg hb hs pins s st H D I ?_
  obtain ⟨μ, ρ, σ, hE, hr, hp⟩ := hq
  refine ⟨μ, ρ, σ, hE, hr, hp.xs hE fun src σ1 μ1 J H1 _ e1 r1 q1 p1 => ?_⟩
  cases src with
  | seq ds =>
    have p1' : Post T EN (RFl T) μ1 H1 (loop t g ds ρ σ1) (EndQ X D) := p1
    refine ⟨fun i m st2 H2 => m = ds.length - i ∧ ∃ μ ρ σ, Ext μ1 H1 μ H2 ∧ ERep T μ H2 ρ st2 ∧ Rel T μ H2 σ ∧ Post T EN (RFl T) μ H2 (loop t g (ds.drop i) ρ σ) (EndQ X D), ⟨ds.length, by simp, μ1, ρ, σ1, Ext.refl _ _, hE.mono e1, r1, by simpa using p1'⟩, ?_⟩
    rintro i m st2 H2 ⟨rfl, μ2, ρ2, σ2, ex, hE2, r2, p2⟩
    have so := q1 μ2 H2 σ2 i ex r2
    have so' : match (some ds[i]? : Option (Option L4.D)) with | none => True | some none => J.stop i H2 | some (some d) => J.go i H2 ∧ ∀ x H', J.yld i H2 x H' → H' = H2 ∧ Rep T μ2 H2 d x := so
    cases ei : ds[i]? with
    | none =>
      rw [ei] at so'
      rw [List.drop_eq_nil_of_le (List.getElem?_eq_none_iff.mp ei)] at p2
      exact .inl ⟨so', Post.here (g := Gl2.nx st2) p2 r2 hE2⟩
    | some d =>
      rw [ei] at so'
      obtain ⟨hl, ed⟩ := List.getElem?_eq_some_iff.mp ei
      have hd : ds.drop i = d :: ds.drop (i + 1) := by rw [← ed]; exact (List.drop_eq_getElem_cons hl)
      rw [hd] at p2
      unfold loop at p2
      refine .inr ⟨so'.1, fun st3 H3 => ∃ μ ρ σ, Ext μ1 H1 μ H3 ∧ ERep T μ H3 ρ st3 ∧ Rel T μ H3 σ ∧ Post T EN (RFl T) μ H3 (loop t g (ds.drop (i + 1)) ρ σ) (EndQ X D), fun st3 H3 h => ⟨ds.length - (i + 1), by omega, rfl, h⟩, fun x H3 y => ?_⟩
      obtain ⟨rfl, hx⟩ := so'.2 x H3 y
      cases ht : t d ρ2 with
      | none => rw [ht] at p2; exact p2.elim
      | some ρ3 =>
        rw [ht] at p2
        exact ⟨μ2, σ2, ρ2, d, ρ3, hE2, r2, hx, ht, fun st3 hE3 => ⟨μ2, ρ3, σ2, hE3, r2, p2.bind fun fl σ4 μ4 gl H4 _ e4 r4 q4 p4 => turn_end r4 q4 p4 fun ρ5 st5 hE5 p5 => ⟨μ4, ρ5, σ4, ex.trans e4, hE5, r4, p5⟩⟩⟩
  | lref n =>
    have p1' : Post T EN (RFl T) μ1 H1 (loopL t g n 1001 0 ρ σ1) (EndQ X D) := p1
    refine ⟨fun i m st2 H2 => ∃ μ ρ σ, Ext μ1 H1 μ H2 ∧ ERep T μ H2 ρ st2 ∧ Rel T μ H2 σ ∧ Post T EN (RFl T) μ H2 (loopL t g n m i ρ σ) (EndQ X D), ⟨1001, μ1, ρ, σ1, Ext.refl _ _, hE.mono e1, r1, p1'⟩, ?_⟩
    rintro i m st2 H2 ⟨μ2, ρ2, σ2, ex, hE2, r2, p2⟩
    cases m with
    | zero => exact p2.elim
    | succ m =>
      unfold loopL at p2
      have so := q1 μ2 H2 σ2 i ex r2
      have so' : match ((lstAt σ2 n).map fun xs => xs[i]? : Option (Option L4.D)) with | none => True | some none => J.stop i H2 | some (some d) => J.go i H2 ∧ ∀ x H', J.yld i H2 x H' → H' = H2 ∧ Rep T μ2 H2 d x := so
      cases el : lstAt σ2 n with
      | none => simp only [el] at p2; exact p2.elim
      | some xs =>
        simp only [el] at p2 so'
        cases ei : xs[i]? with
        | none =>
          simp only [ei, Option.map_some] at p2 so'
          exact .inl ⟨so', Post.here (g := Gl2.nx st2) p2 r2 hE2⟩
        | some d =>
          simp only [ei, Option.map_some] at p2 so'
          refine .inr ⟨so'.1, fun st3 H3 => ∃ μ ρ σ, Ext μ1 H1 μ H3 ∧ ERep T μ H3 ρ st3 ∧ Rel T μ H3 σ ∧ Post T EN (RFl T) μ H3 (loopL t g n m (i + 1) ρ σ) (EndQ X D), fun st3 H3 h => ⟨m, Nat.lt_succ_self _, h⟩, fun x H3 y => ?_⟩
          obtain ⟨rfl, hx⟩ := so'.2 x H3 y
          cases ht : t d ρ2 with
          | none => simp only [ht] at p2; exact p2.elim
          | some ρ3 =>
            simp only [ht] at p2
            exact ⟨μ2, σ2, ρ2, d, ρ3, hE2, r2, hx, ht, fun st3 hE3 => ⟨μ2, ρ3, σ2, hE3, r2, p2.bind fun fl σ4 μ4 gl H4 _ e4 r4 q4 p4 => turn_end r4 q4 p4 fun ρ5 st5 hE5 p5 => ⟨μ4, ρ5, σ4, ex.trans e4, hE5, r4, p5⟩⟩⟩
end
end L4

namespace L4
open PySem PySem.Spec PyProof.Rows L2

/-! ### what nobody changes any more: data -/
mutual
/-- no reference to the store -/
def cl : D → Bool
  | .tup xs => clL xs
  | .lst xs => clL xs
  | .dic _ xs => clL xs
  | .obj _ _ xs => clL xs
  | .ref _ => false
  | .non => true
  | .bl _ => true
  | .int _ => true
  | .str _ => true
  | .scr _ => true
  | .exn _ => true
def clL : List D → Bool
  | [] => true
  | d :: ds => cl d && clL ds
end
def fzL (f : D → Option D) : List D → Option (List D)
  | [] => some []
  | d :: ds => match f d, fzL f ds with
    | some x, some xs => some (x :: xs)
    | _, _ => none
def fz (k : Nat) (σ : Sto) : Nat → D → Option D
  | 0, d => if cl d = true then some d else match d with
    | .ref n => if n < k then some (.ref n) else none
    | _ => none
  | m + 1, d => if cl d = true then some d else match d with
    | .ref n => if n < k then some (.ref n) else match σ[n]? with
      | some (.lst xs) => (fzL (fz k σ m) xs).map .lst
      | some (.dic kvs) => (fzL (fz k σ m) (kvs.map (·.2))).map (.dic (kvs.map (·.1)))
      | some (.ins c fs) => (fzL (fz k σ m) (fs.map (·.2))).map (.obj c (fs.map (·.1)))
      | none => none
    | .tup xs => (fzL (fz k σ m) xs).map .tup
    | .lst xs => (fzL (fz k σ m) xs).map .lst
    | .dic ks xs => (fzL (fz k σ m) xs).map (.dic ks)
    | .obj c ns xs => (fzL (fz k σ m) xs).map (.obj c ns)
    | _ => none
open Classical in
/-- the store is as it was: what was made is data or gone -/
noncomputable def frzO (σ : Sto) : Out D → Out D
  | .ok d σ' => if σ'.take σ.length = σ then (match fz σ.length σ' 6 d with
    | some d' => .ok d' σ
    | none => .bad) else .bad
  | .ex x σ' => if σ'.take σ.length = σ then .ex x σ else .bad
  | .bad => .bad
noncomputable def frz (f : M D) : M D := fun σ => frzO σ (f σ)

section
variable {T : Tb} {μ μ' : List Addr} {H H' : Hp} {σ σ' : Sto}
mutual
theorem cl_down (e : ∃ r, μ' = μ ++ r) : ∀ (d : D) (v : V), cl d = true → Rep T μ' H d v → Rep T μ H d v
  | .non, v, _, h => by simpa [Rep] using h
  | .bl b, v, _, h => by simpa [Rep] using h
  | .int i, v, _, h => by simpa [Rep] using h
  | .str x, v, _, h => by simpa [Rep] using h
  | .tup ds, v, c, h => by
    rw [Rep] at h ⊢
    obtain ⟨p, vs, h1, h2, h3⟩ := h
    exact ⟨p, vs, h1, h2, clL_down e ds vs (by simpa [cl] using c) h3⟩
  | .scr ns, v, _, h => by rw [Rep] at h ⊢; exact h
  | .ref n, v, c, h => by simp [cl] at c
  | .lst ds, v, c, h => by
    rw [Rep] at h ⊢
    obtain ⟨a, vs, h1, h2, h3, h4⟩ := h
    exact ⟨a, vs, h1, fun z => h2 (by obtain ⟨r, rfl⟩ := e; exact List.mem_append_left _ z), h3, clL_down e ds vs (by simpa [cl] using c) h4⟩
  | .dic ks ds, v, c, h => by
    rw [Rep] at h ⊢
    obtain ⟨a, vs, h1, h2, h3, h5, h4⟩ := h
    exact ⟨a, vs, h1, fun z => h2 (by obtain ⟨r, rfl⟩ := e; exact List.mem_append_left _ z), h3, h5, clL_down e ds _ (by simpa [cl] using c) h4⟩
  | .obj k ns ds, v, c, h => by
    rw [Rep] at h ⊢
    obtain ⟨a, dx, vs, h1, h2, h3, h5, h4⟩ := h
    exact ⟨a, dx, vs, h1, fun z => h2 (by obtain ⟨r, rfl⟩ := e; exact List.mem_append_left _ z), h3, h5, clL_down e ds _ (by simpa [cl] using c) h4⟩
  | .exn k, v, _, h => by
    rw [Rep] at h ⊢
    obtain ⟨a, dd, h1, h2, h3, h4⟩ := h
    exact ⟨a, dd, h1, fun z => h2 (by obtain ⟨r, rfl⟩ := e; exact List.mem_append_left _ z), h3, fun n q => let ⟨dN, q1, q2, q3⟩ := h4 n q; ⟨dN, q1, fun z => q2 (by obtain ⟨r, rfl⟩ := e; exact List.mem_append_left _ z), q3⟩⟩
theorem clL_down (e : ∃ r, μ' = μ ++ r) : ∀ (ds : List D) (vs : List V), clL ds = true → RepL T μ' H ds vs → RepL T μ H ds vs
  | [], vs, _, h => by simpa [RepL] using h
  | d :: ds, vs, c, h => by
    rw [RepL] at h ⊢
    obtain ⟨v, r, h1, h2, h3⟩ := h
    have c' : cl d = true ∧ clL ds = true := by simpa [clL, Bool.and_eq_true] using c
    exact ⟨v, r, h1, cl_down e d v c'.1 h2, clL_down e ds r c'.2 h3⟩
end
mutual
theorem Rep.down (e : ∃ r, μ' = μ ++ r) : ∀ (d : D) (v0 v : V), Rep T μ H d v0 → Rep T μ' H' d v → Rep T μ H' d v
  | .non, v0, v, _, h => by simpa [Rep] using h
  | .bl b, v0, v, _, h => by simpa [Rep] using h
  | .int i, v0, v, _, h => by simpa [Rep] using h
  | .str x, v0, v, _, h => by simpa [Rep] using h
  | .tup ds, v0, v, c, h => by
    rw [Rep] at h c ⊢
    obtain ⟨p, vs, h1, h2, h3⟩ := h
    obtain ⟨p0, vs0, _, _, c3⟩ := c
    exact ⟨p, vs, h1, h2, RepL.down e ds vs0 vs c3 h3⟩
  | .scr ns, v0, v, _, h => by rw [Rep] at h ⊢; exact h
  | .ref n, v0, v, c, h => by
    rw [Rep] at h c ⊢
    obtain ⟨a, h1, h2⟩ := h
    obtain ⟨b, _, c2⟩ := c
    refine ⟨a, h1, ?_⟩
    obtain ⟨r, rfl⟩ := e
    rw [List.getElem?_append_left (List.getElem?_eq_some_iff.mp c2).1] at h2
    exact h2
  | .lst ds, v0, v, c, h => by
    rw [Rep] at h c ⊢
    obtain ⟨a, vs, h1, h2, h3, h4⟩ := h
    obtain ⟨_, vs0, _, _, _, c4⟩ := c
    exact ⟨a, vs, h1, fun z => h2 (by obtain ⟨r, rfl⟩ := e; exact List.mem_append_left _ z), h3, RepL.down e ds vs0 vs c4 h4⟩
  | .dic ks ds, v0, v, c, h => by
    rw [Rep] at h c ⊢
    obtain ⟨a, vs, h1, h2, h3, h5, h4⟩ := h
    obtain ⟨_, vs0, _, _, _, _, c4⟩ := c
    exact ⟨a, vs, h1, fun z => h2 (by obtain ⟨r, rfl⟩ := e; exact List.mem_append_left _ z), h3, h5, RepL.down e ds _ _ c4 h4⟩
  | .obj k ns ds, v0, v, c, h => by
    rw [Rep] at h c ⊢
    obtain ⟨a, dx, vs, h1, h2, h3, h5, h4⟩ := h
    obtain ⟨_, _, vs0, _, _, _, _, c4⟩ := c
    exact ⟨a, dx, vs, h1, fun z => h2 (by obtain ⟨r, rfl⟩ := e; exact List.mem_append_left _ z), h3, h5, RepL.down e ds _ _ c4 h4⟩
  | .exn k, v0, v, _, h => by
    rw [Rep] at h ⊢
    obtain ⟨a, dd, h1, h2, h3, h4⟩ := h
    exact ⟨a, dd, h1, fun z => h2 (by obtain ⟨r, rfl⟩ := e; exact List.mem_append_left _ z), h3, fun n q => let ⟨dN, q1, q2, q3⟩ := h4 n q; ⟨dN, q1, fun z => q2 (by obtain ⟨r, rfl⟩ := e; exact List.mem_append_left _ z), q3⟩⟩
theorem RepL.down (e : ∃ r, μ' = μ ++ r) : ∀ (ds : List D) (vs0 vs : List V), RepL T μ H ds vs0 → RepL T μ' H' ds vs → RepL T μ H' ds vs
  | [], vs0, vs, _, h => by simpa [RepL] using h
  | d :: ds, vs0, vs, c, h => by
    rw [RepL] at h c ⊢
    obtain ⟨v, r, h1, h2, h3⟩ := h
    obtain ⟨v0, r0, _, c2, c3⟩ := c
    exact ⟨v, r, h1, Rep.down e d v0 v c2 h2, RepL.down e ds r0 r c3 h3⟩
end
theorem paired_down {α : Type} (e : ∃ r, μ' = μ ++ r) : ∀ {xs : List (α × D)} {ys zs : List (α × V)}, Paired (fun (p : α × D) (q : α × V) => p.1 = q.1 ∧ Rep T μ H p.2 q.2) xs zs → Paired (fun (p : α × D) (q : α × V) => p.1 = q.1 ∧ Rep T μ' H' p.2 q.2) xs ys → Paired (fun (p : α × D) (q : α × V) => p.1 = q.1 ∧ Rep T μ H' p.2 q.2) xs ys
  | _, _, _, .nil, .nil => .nil
  | _, _, _, .cons a b, .cons c d => .cons ⟨c.1, Rep.down e _ _ _ a.2 c.2⟩ (paired_down e b d)
theorem ObR.down (e : ∃ r, μ' = μ ++ r) {a : Addr} : ∀ {o : Ob}, ObR T μ H a o → ObR T μ' H' a o → ObR T μ H' a o
  | .lst ds, ⟨_, _, c⟩, ⟨vs, h, r⟩ => ⟨vs, h, RepL.down e _ _ _ c r⟩
  | .dic kvs, ⟨_, _, c⟩, ⟨vs, h, r⟩ => ⟨vs, h, paired_down e c r⟩
  | .ins c fs, ⟨_, _, _, c'⟩, ⟨dx, vs, h, r⟩ => ⟨dx, vs, h, paired_down e c' r⟩
/-- back to the store as it was -/
theorem Rel.down (r0 : Rel T μ H σ) (r : Rel T μ' H' σ') (e : Ext μ H μ' H') (ht : σ'.take σ.length = σ) : Rel T μ H' σ ∧ Ext μ H μ H' := by
  refine ⟨⟨r0.len, r0.nd, fun n o h => ?_⟩, ⟨⟨[], by simp⟩, e.tup, e.frz, fun p o h n => ⟨(e.keep p o h n).1, n⟩⟩⟩
  obtain ⟨a, h1, h2⟩ := r0.obs n o h
  have h' : σ'[n]? = some o := by
    have hl := (List.getElem?_eq_some_iff.mp h).1
    rw [← ht, List.getElem?_take_of_lt hl] at h
    exact h
  obtain ⟨b, h3, h4⟩ := r.obs n o h'
  have eb := e.get h1
  rw [h3] at eb; cases eb
  exact ⟨a, h1, h2.down e.pre h4⟩
theorem repl_pairs {α : Type} : ∀ {xs : List (α × D)} {ys : List (α × V)}, Paired (fun (p : α × D) (q : α × V) => p.1 = q.1 ∧ Rep T μ H p.2 q.2) xs ys → ys.map (·.1) = xs.map (·.1) ∧ RepL T μ H (xs.map (·.2)) (ys.map (·.2))
  | _, _, .nil => ⟨rfl, RepL.nil⟩
  | _, _, .cons a b => by
    obtain ⟨h1, h2⟩ := repl_pairs b
    exact ⟨by simp [h1, a.1], RepL.cons a.2 h2⟩
theorem fzL_rep {f : D → Option D} (hf : ∀ d d' v, f d = some d' → Rep T μ' H d v → Rep T μ H d' v) : ∀ (ds ds' : List D) (vs : List V), fzL f ds = some ds' → RepL T μ' H ds vs → RepL T μ H ds' vs
  | [], ds', vs, h, r => by cases h; simpa [RepL] using r
  | d :: ds, ds', vs, h, r => by
    unfold fzL at h
    cases e1 : f d with
    | none => rw [e1] at h; cases h
    | some x =>
      cases e2 : fzL f ds with
      | none => rw [e1, e2] at h; cases h
      | some xs =>
        rw [e1, e2] at h; cases h
        rw [RepL] at r
        obtain ⟨v, w, rfl, h2, h3⟩ := r
        exact RepL.cons (hf d x v e1 h2) (fzL_rep hf ds xs w e2 h3)
theorem fz_rep (e : ∃ r, μ' = μ ++ r) (r : Rel T μ' H σ') : ∀ (m : Nat) (d d' : D) (v : V), fz μ.length σ' m d = some d' → Rep T μ' H d v → Rep T μ H d' v := by
  have old : ∀ n v, n < μ.length → Rep T μ' H (.ref n) v → Rep T μ H (.ref n) v := fun n v hn h => by
    rw [Rep] at h ⊢
    obtain ⟨a, h1, h2⟩ := h
    obtain ⟨q, rfl⟩ := e
    rw [List.getElem?_append_left hn] at h2
    exact ⟨a, h1, h2⟩
  intro m
  induction m with
  | zero =>
    intro d d' v h hr
    unfold fz at h
    by_cases hc : cl d = true
    · rw [if_pos hc] at h; cases h; exact cl_down e _ _ hc hr
    · rw [if_neg hc] at h
      cases d with
      | ref n =>
        dsimp only at h
        by_cases hn : n < μ.length
        · rw [if_pos hn] at h; cases h; exact old n v hn hr
        · rw [if_neg hn] at h; cases h
      | _ => cases h
  | succ m ih =>
    intro d d' v h hr
    unfold fz at h
    by_cases hc : cl d = true
    · rw [if_pos hc] at h; cases h; exact cl_down e _ _ hc hr
    · rw [if_neg hc] at h
      have go := fzL_rep (T := T) (μ := μ) (μ' := μ') (H := H) (f := fz μ.length σ' m) (fun d d' v a b => ih d d' v a b)
      cases d with
      | ref n =>
        dsimp only at h
        by_cases hn : n < μ.length
        · rw [if_pos hn] at h; cases h; exact old n v hn hr
        · rw [if_neg hn] at h
          cases es : σ'[n]? with
          | none => rw [es] at h; cases h
          | some o =>
            rw [es] at h
            obtain ⟨a, rfl, ha, hob⟩ := r.at hr es
            have out : a ∉ μ := fun z => by
              obtain ⟨i, hi⟩ := List.getElem?_of_mem z
              obtain ⟨q, rfl⟩ := e
              have hl := (List.getElem?_eq_some_iff.mp hi).1
              have := nodup_at r.nd (i := i) (j := n) (by rw [List.getElem?_append_left hl]; exact hi) ha
              omega
            cases o with
            | lst xs =>
              obtain ⟨ys, h1, h2⟩ := Option.map_eq_some_iff.mp h
              subst h2
              obtain ⟨vs, h3, h4⟩ := hob
              rw [Rep]
              exact ⟨a, vs, rfl, out, h3, go xs ys vs h1 h4⟩
            | dic kvs =>
              obtain ⟨ys, h1, h2⟩ := Option.map_eq_some_iff.mp h
              subst h2
              obtain ⟨vs, h3, h4⟩ := hob
              obtain ⟨h5, h6⟩ := repl_pairs h4
              rw [Rep]
              exact ⟨a, vs, rfl, out, h3, h5, go _ ys _ h1 h6⟩
            | ins c fs =>
              obtain ⟨ys, h1, h2⟩ := Option.map_eq_some_iff.mp h
              subst h2
              obtain ⟨dx, vs, h3, h4⟩ := hob
              obtain ⟨h5, h6⟩ := repl_pairs h4
              rw [Rep]
              exact ⟨a, dx, vs, rfl, out, h3, h5, go _ ys _ h1 h6⟩
      | tup xs =>
        obtain ⟨ys, h1, h2⟩ := Option.map_eq_some_iff.mp h
        subst h2
        rw [Rep] at hr ⊢
        obtain ⟨p, vs, e1, e2, e3⟩ := hr
        exact ⟨p, vs, e1, e2, go xs ys vs h1 e3⟩
      | lst xs =>
        obtain ⟨ys, h1, h2⟩ := Option.map_eq_some_iff.mp h
        subst h2
        rw [Rep] at hr ⊢
        obtain ⟨p, vs, e1, e0, e2, e3⟩ := hr
        exact ⟨p, vs, e1, fun z => e0 (by obtain ⟨r, rfl⟩ := e; exact List.mem_append_left _ z), e2, go xs ys vs h1 e3⟩
      | dic ks xs =>
        obtain ⟨ys, h1, h2⟩ := Option.map_eq_some_iff.mp h
        subst h2
        rw [Rep] at hr ⊢
        obtain ⟨p, vs, e1, e0, e2, e4, e3⟩ := hr
        exact ⟨p, vs, e1, fun z => e0 (by obtain ⟨r, rfl⟩ := e; exact List.mem_append_left _ z), e2, e4, go xs ys _ h1 e3⟩
      | obj c ks xs =>
        obtain ⟨ys, h1, h2⟩ := Option.map_eq_some_iff.mp h
        subst h2
        rw [Rep] at hr ⊢
        obtain ⟨p, dx, vs, e1, e0, e2, e4, e3⟩ := hr
        exact ⟨p, dx, vs, e1, fun z => e0 (by obtain ⟨r, rfl⟩ := e; exact List.mem_append_left _ z), e2, e4, go xs ys _ h1 e3⟩
      | _ => cases h
theorem Post.frz {E : XK} {f : M D} {Q : V → Hp → Prop} (r : Rel T μ H σ) (h : Post T E (Rep T) μ H (frz f σ) Q) : Post T E (Rep T) μ H (f σ) Q := by
  unfold L4.frz at h
  cases e : f σ with
  | bad => rw [e] at h; exact h
  | ex x σ1 =>
    rw [e] at h
    unfold frzO at h
    dsimp only at h
    by_cases ht : σ1.take σ.length = σ
    · rw [if_pos ht] at h
      intro μ1 H1 e1 r1
      obtain ⟨r2, e2⟩ := Rel.down r r1 e1 ht
      exact h μ H1 e2 r2
    · rw [if_neg ht] at h; exact h.elim
  | ok d σ1 =>
    rw [e] at h
    unfold frzO at h
    dsimp only at h
    by_cases ht : σ1.take σ.length = σ
    · rw [if_pos ht] at h
      cases ef : fz σ.length σ1 6 d with
      | none => rw [ef] at h; exact h.elim
      | some d' =>
        rw [ef] at h
        intro μ1 v H1 e1 r1 p1
        obtain ⟨r2, e2⟩ := Rel.down r r1 e1 ht
        exact h μ v H1 e2 r2 (fz_rep e1.pre r1 6 d d' v (by rw [r.len]; exact ef) p1)
    · rw [if_neg ht] at h; exact h.elim
end
/-- an expression, what it made being data -/
noncomputable def eFrz (f : Ev → M D) : Ev → M D := fun ρ => frz (f ρ)
theorem fe_frz {T : Tb} {X : Cx} {e : Expr} {f : Ev → M D} (h : FE T X e f) : FE T X e (eFrz f) := by
  intro pins s st H Q I hw
  obtain ⟨μ, ρ, σ, hE, hr, hp⟩ := hw
  exact h pins s st H Q I ⟨μ, ρ, σ, hE, hr, Post.frz hr hp⟩
end L4

namespace L4
open PySem PySem.Spec PyProof.Rows L2


/-! ### what keeps each object's dict -/
def DK (h h' : Heap) : Prop := ∀ (a : Nat) o, h.objs[a]? = some o → ∃ o' : Obj, h'.objs[a]? = some o' ∧ o'.dict = o.dict
theorem DK.refl (h : Heap) : DK h h := fun _ o e => ⟨o, e, rfl⟩
theorem DK.trans {h1 h2 h3 : Heap} (x : DK h1 h2) (y : DK h2 h3) : DK h1 h3 := fun a o e => by
  obtain ⟨o', e', q⟩ := x a o e
  obtain ⟨o'', e'', q'⟩ := y a o' e'
  exact ⟨o'', e'', q'.trans q⟩
theorem DK.push (h : Heap) (o : Obj) : DK h (h.push o) := fun a u e => by
  obtain ⟨objs, l⟩ := h
  have e : objs[a]? = some u := e
  have hl := (Array.getElem?_eq_some_iff.mp e).1
  refine ⟨u, ?_, rfl⟩
  show (objs.push o)[a]? = some u
  rw [Array.getElem?_push_lt hl]; exact (Array.getElem?_eq_getElem hl).symm.trans e
theorem DK.update (h : Heap) (b : Addr) {f : Obj → Obj} (hf : ∀ o, (f o).dict = o.dict) : DK h (h.update b f) := fun a u e => by
  obtain ⟨objs, l⟩ := h
  have e : objs[a]? = some u := e
  show ∃ o' : Obj, (objs.modify b f)[a]? = some o' ∧ _
  rw [Array.getElem?_modify]
  by_cases hb : b = a
  · rw [if_pos hb, e]; exact ⟨f u, rfl, hf u⟩
  · rw [if_neg hb]; exact ⟨u, e, rfl⟩
theorem DK.get {h h' : Heap} (x : DK h h') {a : Addr} {o o' : Obj} (e : h.get? a = some o) (e' : h'.get? a = some o') : o'.dict = o.dict := by
  obtain ⟨u, q1, q2⟩ := x a o ((Heap.get?_eq_some _ _ _).1 e).1
  have := ((Heap.get?_eq_some _ _ _).1 e').1
  have z : some u = some o' := q1.symm.trans this
  cases z; exact q2
structure KD {α : Type} (t : Sem α) : Prop where
  out : ∀ (M : Model) (Γ : PySem.Ctx) (Q : α → Pos → Shared → Prop) (E : Value → Pos → Shared → Prop) (p : Pos) (s : Shared), Sem.wp M Γ t Q E p s → Sem.wp M Γ t (fun a p' s' => Q a p' s' ∧ DK s.heap s'.heap) (fun e p' s' => E e p' s' ∧ DK s.heap s'.heap) p s
namespace KD
variable {α β : Type}
theorem pur (a : α) : KD (Pure.pure a : Sem α) := ⟨fun _ _ _ _ _ s h => ⟨h, .refl _⟩⟩
theorem uns (w : String) : KD (PySem.unsupported w : Sem α) := ⟨fun _ _ _ _ _ _ h => h⟩
theorem bnd {m : Sem α} {f : α → Sem β} (hm : KD m) (hf : ∀ a, KD (f a)) : KD (m >>= f) := ⟨fun M Γ Q E p s h => by
  rw [Sem.wp_bind'] at h ⊢
  refine Sem.wp_mono M Γ m (fun a p' s' z => ?_) (fun _ _ _ z => z) p s (hm.out M Γ _ _ p s h)
  exact Sem.wp_mono M Γ (f a) (fun _ _ _ q => ⟨q.1, z.2.trans q.2⟩) (fun _ _ _ q => ⟨q.1, z.2.trans q.2⟩) p' s' ((hf a).out M Γ _ _ p' s' z.1)⟩
theorem ite' {c : Prop} [Decidable c] {t u : Sem α} (ht : KD t) (hu : KD u) : KD (if c then t else u) := by split <;> assumption
theorem ld (a : Addr) : KD (PySem.load a) := ⟨fun _ _ _ _ _ _ h => by obtain ⟨o, ho, h⟩ := h; exact ⟨o, ho, h, .refl _⟩⟩
theorem upd (a : Addr) {f : Obj → Obj} (hf : ∀ o, (f o).dict = o.dict) : KD (PySem.update a f) := ⟨fun _ _ _ _ _ _ h => ⟨h.1, h.2, .update _ _ hf⟩⟩
theorem stk : KD PySem.stack := ⟨fun M Γ Q E p s h => by
  unfold PySem.stack at h ⊢
  rw [Sem.wp_stack] at h ⊢
  exact ⟨h, .refl _⟩⟩
theorem alc (o : Obj) : KD (PySem.alloc o) := ⟨fun _ _ _ _ _ _ h => ⟨h, .push _ _⟩⟩
theorem fld (v : Value) (i : Nat) : KD (PySem.field v i) := ⟨fun _ Γ Q E p s h => by
  rw [wp_field_iff] at h ⊢
  obtain ⟨a, o, vs, x, e1, e2, e3, e4, h⟩ := h
  exact ⟨a, o, vs, x, e1, e2, e3, e4, h, .refl _⟩⟩
theorem set (v : Value) (i : Nat) (x : Value) : KD (PySem.setField v i x) := ⟨fun _ Γ Q E p s h => by
  rw [wp_setField_iff] at h ⊢
  obtain ⟨a, o, vs, e1, e2, e3, e4, h⟩ := h
  exact ⟨a, o, vs, e1, e2, e3, e4, h, .update _ _ fun o => by obtain ⟨c, d, dt, sl⟩ := o; cases dt <;> rfl⟩⟩
end KD
theorem kd_imp (env : Env) (l : List Env) : KD (behindIsImport env l) := by unfold behindIsImport; (repeat' with_reducible first | assumption | exact KD.pur _ | exact KD.uns _ | exact KD.fld _ _ | exact KD.set _ _ _ | exact KD.ld _ | exact KD.upd _ (fun _ => rfl) | exact KD.stk | exact KD.alc _ | apply KD.ite' | apply KD.bnd | intro _ | split)
theorem kd_ucc : KD underTheClaimsCaller := by unfold underTheClaimsCaller; (repeat' with_reducible first | assumption | exact KD.pur _ | exact KD.uns _ | exact KD.fld _ _ | exact KD.set _ _ _ | exact KD.ld _ | exact KD.upd _ (fun _ => rfl) | exact KD.stk | exact KD.alc _ | apply KD.ite' | apply KD.bnd | intro _ | split)
theorem kd_back (env : Env) (i : Bool) (l : List Env) : KD (keptBack env i l) := by
  have := kd_ucc
  cases l <;> unfold keptBack <;> (repeat' with_reducible first | assumption | exact KD.pur _ | exact KD.uns _ | exact KD.fld _ _ | exact KD.set _ _ _ | exact KD.ld _ | exact KD.upd _ (fun _ => rfl) | exact KD.stk | exact KD.alc _ | apply KD.ite' | apply KD.bnd | intro _ | split)
theorem kd_ready : ∀ l : List Env, KD (readyFrames l)
  | [] => KD.pur _
  | env :: l => by
    have ih := kd_ready l
    have h1 := kd_imp env l
    have h2 := fun i => kd_back env i l
    unfold readyFrames
    (repeat' with_reducible first | assumption | exact KD.pur _ | exact KD.uns _ | exact KD.fld _ _ | exact KD.set _ _ _ | exact KD.ld _ | exact KD.upd _ (fun _ => rfl) | exact KD.stk | exact KD.alc _ | apply KD.ite' | apply KD.bnd | intro _ | split)
    all_goals first | exact h2 _ | skip
theorem kd_fobj (l : List Env) : KD (frameObject l) := by
  cases l with
  | nil => exact KD.pur _
  | cons env l =>
    have := kd_ready (env :: l)
    unfold frameObject
    (repeat' with_reducible first | assumption | exact KD.pur _ | exact KD.uns _ | exact KD.fld _ _ | exact KD.set _ _ _ | exact KD.ld _ | exact KD.upd _ (fun _ => rfl) | exact KD.stk | exact KD.alc _ | apply KD.ite' | apply KD.bnd | intro _ | split)
theorem kd_envs : KD frameEnvs := by unfold frameEnvs; (repeat' with_reducible first | assumption | exact KD.pur _ | exact KD.uns _ | exact KD.fld _ _ | exact KD.set _ _ _ | exact KD.ld _ | exact KD.upd _ (fun _ => rfl) | exact KD.stk | exact KD.alc _ | apply KD.ite' | apply KD.bnd | intro _ | split)
theorem kd_frame (env : Env) : KD (PySem.frameOf env) := by
  have h1 := kd_envs
  have h2 := kd_fobj
  unfold PySem.frameOf
  (repeat' with_reducible first | assumption | exact KD.pur _ | exact KD.uns _ | exact KD.fld _ _ | exact KD.set _ _ _ | exact KD.ld _ | exact KD.upd _ (fun _ => rfl) | exact KD.stk | exact KD.alc _ | apply KD.ite' | apply KD.bnd | intro _ | split)
  all_goals first | exact h2 _ | skip
theorem kd_place (f : Addr) (b : Bool) : KD (entryPlaceOf f b) := by unfold entryPlaceOf; (repeat' with_reducible first | assumption | exact KD.pur _ | exact KD.uns _ | exact KD.fld _ _ | exact KD.set _ _ _ | exact KD.ld _ | exact KD.upd _ (fun _ => rfl) | exact KD.stk | exact KD.alc _ | apply KD.ite' | apply KD.bnd | intro _ | split)
theorem kd_entry (a b c d e : Value) (l : List Value) : KD (EntryCells.newEntry a b c d e l) := by
  unfold EntryCells.newEntry newFields newObj newObjAsIs
  dsimp only
  (repeat' with_reducible first | assumption | exact KD.pur _ | exact KD.uns _ | exact KD.fld _ _ | exact KD.set _ _ _ | exact KD.ld _ | exact KD.upd _ (fun _ => rfl) | exact KD.stk | exact KD.alc _ | apply KD.ite' | apply KD.bnd | intro _ | split)
theorem kd_note (e : Value) (env : Env) : KD (noteFrame e env) := by
  have h1 := kd_frame env
  have h2 := kd_place
  have h3 := kd_entry
  unfold noteFrame
  (repeat' with_reducible first | assumption | exact KD.pur _ | exact KD.uns _ | exact KD.fld _ _ | exact KD.set _ _ _ | exact KD.ld _ | exact KD.upd _ (fun _ => rfl) | exact KD.stk | exact KD.alc _ | apply KD.ite' | apply KD.bnd | intro _ | split)
  all_goals first | exact h2 _ _ | exact h3 _ _ _ _ _ _ | skip
theorem kd_flight (e : Value) (f : Option Addr) : KD (setFlight e f) := by unfold setFlight; (repeat' with_reducible first | assumption | exact KD.pur _ | exact KD.uns _ | exact KD.fld _ _ | exact KD.set _ _ _ | exact KD.ld _ | exact KD.upd _ (fun _ => rfl) | exact KD.stk | exact KD.alc _ | apply KD.ite' | apply KD.bnd | intro _ | split)
theorem wp_kd {α : Type} {M : Model} {A : Around} {t : Sem α} {Q : α → Shared → Prop} {E : Value → Shared → Prop} {s : Shared} (k : KD t) (h : wpAny M A t Q E s) : wpAny M A t (fun a s' => Q a s' ∧ DK s.heap s'.heap) E s :=
  fun Γ p hΓ => Sem.wp_mono M Γ t (fun _ _ _ z => z) (fun _ _ _ z => z.1) p s (k.out M Γ _ _ p s (h Γ p hΓ))
/-! ### an exception leaves a frame, reaches a frame -/
section
variable {P : Program} {w : World} {H H' : Hp} {h h' : Heap} {a : Addr} {o : HO}
theorem objOk_there (x : ObjOk P w H h a o) : ∃ u, h.get? a = some u := by
  cases o with
  | lst xs => obtain ⟨_, _, _, _, e⟩ := x; exact ⟨_, e⟩
  | tup xs => obtain ⟨_, _, _, ob, e, _⟩ := x; exact ⟨_, e⟩
  | dK kvs => obtain ⟨_, _, _, _, o, _, _, e, _⟩ := x; exact ⟨_, e⟩
  | dT kvs => obtain ⟨_, _, _, _, o, _, _, e, _⟩ := x; exact ⟨_, e⟩
  | set S n => obtain ⟨o, _, _, _, e, _⟩ := x; exact ⟨_, e⟩
  | ins C dx fs => obtain ⟨_, _, _, e, _⟩ := x; exact ⟨_, e⟩
  | own y => obtain ⟨_, e⟩ := x; exact ⟨_, e⟩
  | xd fs => obtain ⟨_, ⟨_, _, _, e, _⟩, _⟩ := x; exact ⟨_, e⟩
  | rng lo hi => obtain ⟨_, _, _, e⟩ := x; exact ⟨_, e⟩
  | frz ob u => obtain ⟨e, _⟩ := x; exact ⟨_, e⟩
  | tbl ps => exact ⟨_, x⟩
  | met f y => exact ⟨_, x⟩
  | ext φ => obtain ⟨_, ⟨_, e⟩, _⟩ := x; exact ⟨_, e⟩
theorem hok_of (x : HOk P w H h) (k : ∀ b o u, H b = some o → h.get? b = some u → h'.get? b = some u) : HOk P w H h' := fun b o e =>
  (x b o e).stay (fun c v hc q => by
    rcases hc with rfl | hc
    · exact k _ _ _ e q
    · exact k _ _ _ hc q) (fun _ q => q) fun _ _ q => q
end
section
variable {X : Cx} {pins : List (Addr × Obj)} {st : St} {H H' : Hp} {s s' : Shared} {cls : Value} {h' : Heap} {ea : Addr} {args : List Value} {M : Model} {E : Value → Shared → Prop} {Q : Unit → Shared → Prop}
theorem flym_of {B : Heap} {l : List Env} {a0 : Value} {h : Heap} (x : Heap.FlyingW B l ea cls a0 h) : FlyM B l ea cls a0 h := ⟨x.1, x.2.1, x.2.2.1, .inl ⟨.none, x.2.2.2.at⟩⟩
theorem FlyM.there {B : Heap} {l : List Env} {a0 : Value} {h : Heap} (x : FlyM B l ea cls a0 h) : ∃ ob, h.get? ea = some ob ∧ ob.cls = cls := by
  obtain ⟨_, _, _, ⟨fl, q⟩ | ⟨oe, vs, q1, q2, _⟩⟩ := x
  · exact q.there
  · exact ⟨oe, q1, q2⟩
theorem FlyM.flds {B : Heap} {l : List Env} {a0 : Value} {h : Heap} {o : Obj} (x : FlyM B l ea cls a0 h) (ho : h.get? ea = some o) : ∃ vs, o.data = .fields vs := by
  obtain ⟨_, _, _, ⟨fl, oe, vs, T, oT, ts, he, hcls, hd, _⟩ | ⟨oe, vs, q1, q2, q3, _⟩⟩ := x
  · cases he.symm.trans ho; exact ⟨vs, hd⟩
  · cases q1.symm.trans ho; exact ⟨vs, q3⟩
/-- the number stays with it -/
theorem FdH.next {fd : Option Nat} {B h h' h0 : Heap} {H' : Hp} (x : FdH fd ea B h h0 H') (k : DK h h') (e : ∃ o, h'.get? ea = some o) : FdH fd ea B h' h0 H' := fun n q => by
  obtain ⟨dN, oD, oe, q1, q2, q3⟩ := x n q
  obtain ⟨o, e⟩ := e
  exact ⟨dN, oD, o, e, (k.get q1 e).trans q2, q3⟩
/-- the mark goes -/
theorem lands_m {A : Around} {B : Heap} {l : List Env} {a0 : Value} (x : FlyM B l ea cls a0 s.heap) (hQ : ∀ h1, FlyM B l ea cls a0 h1 → s.heap.UpToSlots h1 → DK s.heap h1 → Q () { s with heap := h1 }) : wpAny M A (setFlight (.ref ea) none) Q E s := by
  obtain ⟨f1, f2, f3, ⟨fl, f4⟩ | f4⟩ := x
  · have k : wpAny M A (setFlight (.ref ea) none) (fun _ s' => ∃ h1, s' = { s with heap := h1 } ∧ FlyM B l ea cls a0 h1 ∧ s.heap.UpToSlots h1) E s :=
      wpAny_setFlight_noneW f1 f3 f4 fun h1 k1 k2 k3 k4 => ⟨h1, rfl, flym_of ⟨k1, f2, k2, k3⟩, fun b o e n => ⟨o.slots, k4 b o e n⟩⟩
    exact wpAny_mono (wp_kd (kd_flight _ _) k) (fun _ _ ⟨⟨h1, e, q1, q2⟩, q3⟩ => by subst e; exact hQ h1 q1 q2 q3) fun _ _ z => z
  · obtain ⟨oe, vs, he, hc, hd, hz, h0, h1⟩ := id f4
    unfold setFlight
    refine wpAny_bind (wpAny_field he hd h1 ?_)
    rw [if_neg (show ¬ ((Value.none != Value.none) = true) from by decide)]
    exact wpAny_pure (hQ s.heap ⟨f1, f2, f3, .inr f4⟩ (.refl _) (.refl _))
theorem looks_0 {A : Around} {B : Heap} {env : Env} {outer : List Env} {L : Addr} {a0 : Value} (hfr : A.frames = some (env :: outer)) (hf : env.frame = some L) (x : FlyM B (env :: outer) ea cls a0 s.heap)
    (hQ : ∀ h1, Heap.HeldW B (env :: outer) ea cls a0 L h1 → s.heap.UpToSlots h1 → Q () { s with heap := h1 }) : wpAny M A (noteFrame (.ref ea) env) Q E s := by
  obtain ⟨f1, f2, f3, ⟨fl, f4⟩ | f4⟩ := x
  · by_cases hm : fl = rawInt L
    · subst hm; exact wpAny_noteFrame_againW hf f4 (hQ s.heap ⟨f1, f2, f3, f4⟩ (.refl _))
    · obtain ⟨oe, vs, T, oT, ts, he, hc, hd, h1, hnT, hTe, hT, hdT, h3⟩ := f4
      have sz : 3 < ts.size := (Array.getElem?_eq_some_iff.mp h3).1
      have oth : ∀ b, b ≠ T → (s.heap.update T (Obj.mapFields (·.setIfInBounds 3 Value.none))).get? b = s.heap.get? b := fun b hb => Heap.get?_update_other _ _ (Ne.symm hb)
      have nr : ∀ b o, s.heap.get? b = some o → (∀ v, o.data ≠ .fields v) → b ≠ T := fun b o hb hn q => by
        rw [q, hT] at hb; cases hb; exact hn ts hdT
      have selfT := Heap.get?_update_self (Obj.mapFields (·.setIfInBounds 3 Value.none)) hT (Obj.isFreed_of_fields (Obj.data_mapFields hdT _))
      have up : s.heap.UpToSlots (s.heap.update T (Obj.mapFields (·.setIfInBounds 3 Value.none))) := fun b o e n => ⟨o.slots, (oth b (nr b o e n)).trans e⟩
      have F0 : Heap.FlyingW B (env :: outer) ea cls a0 (s.heap.update T (Obj.mapFields (·.setIfInBounds 3 Value.none))) :=
        ⟨fun b o e => (oth b fun q => by rw [q, hnT] at e; cases e).trans (f1 b o e), f2, f3.of_keeps fun b o e n => ⟨o, (oth b (nr b o e n)).trans e, rfl⟩,
          oe, vs, T, _, _, (oth ea (Ne.symm hTe)).trans he, hc, hd, h1, hnT, hTe, selfT, Obj.data_mapFields hdT _, by simp [sz]⟩
      have key := wpAny_looks_onW (M := M) (E := E) (Q := Q) (s := { s with heap := s.heap.update T (Obj.mapFields (·.setIfInBounds 3 Value.none)) }) hfr hf F0 fun h2 q1 q2 => hQ h2 q1 (up.trans q2)
      intro Γ p hΓ
      have k := key Γ p hΓ
      unfold noteFrame at k ⊢
      simp only [hf] at k ⊢
      rw [Sem.wp_bind', wp_field_iff] at k ⊢
      obtain ⟨a1, o1, v1, x1, e1, g1, d1, i1, k⟩ := k
      cases e1
      have g1' : s.heap.get? ea = some o1 := (oth ea (Ne.symm hTe)).symm.trans g1
      have o1e : o1 = oe := by rw [he] at g1'; cases g1'; rfl
      subst o1e
      rw [hd] at d1; cases d1
      rw [h1] at i1; cases i1
      refine ⟨ea, o1, vs, .ref T, rfl, he, hd, h1, ?_⟩
      have nn : (Value.ref T != Value.none) = true := by simp
      simp only [nn, if_true] at k ⊢
      rw [Sem.wp_bind', wp_field_iff] at k ⊢
      obtain ⟨a2, o2, v2, x2, e2, g2, d2, i2, k⟩ := k
      cases e2
      have g2' := selfT.symm.trans g2
      cases g2'
      have d2' := (Obj.data_mapFields hdT (·.setIfInBounds 3 Value.none)).symm.trans d2
      cases d2'
      have x2e : x2 = Value.none := by
        have : (ts.setIfInBounds 3 Value.none)[3]? = some Value.none := by simp [sz]
        rw [this] at i2; cases i2; rfl
      subst x2e
      refine ⟨T, oT, ts, fl, rfl, hT, hdT, h3, ?_⟩
      have n1 : (Value.none == rawInt L) = false := by simp [rawInt]
      have n2 : (fl == rawInt L) = false := by
        cases q : fl == rawInt L with
        | false => rfl
        | true => exact absurd (beq_iff_eq.mp q) hm
      simp only [n1, n2, Bool.false_eq_true, if_false] at k ⊢
      rw [Sem.wp_bind', wp_setField_iff] at k ⊢
      obtain ⟨a3, o3, v3, e3, g3, d3, i3, k⟩ := k
      cases e3
      refine ⟨T, oT, ts, rfl, hT, hdT, sz, ?_⟩
      simp only [Heap.update_setField_twice] at k
      exact k
  · obtain ⟨oe, vs, he, hc, hd, hz, h0, h1⟩ := f4
    unfold noteFrame
    simp only [hf]
    refine wpAny_bind (wpAny_field he hd h1 ?_)
    rw [if_neg (by decide)]
    refine wpAny_entryW (base := B) (outer := outer) (a0 := a0) hfr f3 hf he f1 f2 hd hz h0 fun h4 hN => ?_
    obtain ⟨k1, k2, k3, k4⟩ := hN
    rw [hc] at k3
    exact hQ h4 ⟨k1, f2, k2, k3⟩ k4
/-- a frame notes it, whatever the mark -/
theorem looks_m {A : Around} {B : Heap} {env : Env} {outer : List Env} {L : Addr} {a0 : Value} (hfr : A.frames = some (env :: outer)) (hf : env.frame = some L) (x : FlyM B (env :: outer) ea cls a0 s.heap)
    (hQ : ∀ h1, Heap.HeldW B (env :: outer) ea cls a0 L h1 → s.heap.UpToSlots h1 → DK s.heap h1 → Q () { s with heap := h1 }) : wpAny M A (noteFrame (.ref ea) env) Q E s := by
  have k : wpAny M A (noteFrame (.ref ea) env) (fun _ s' => ∃ h1, s' = { s with heap := h1 } ∧ Heap.HeldW B (env :: outer) ea cls a0 L h1 ∧ s.heap.UpToSlots h1) E s := looks_0 hfr hf x fun h1 q1 q2 => ⟨h1, rfl, q1, q2⟩
  exact wpAny_mono (wp_kd (kd_note _ _) k) (fun _ _ ⟨⟨h1, e, q1, q2⟩, q3⟩ => by subst e; exact hQ h1 q1 q2 q3) fun _ _ z => z
theorem held_m {B : Heap} {l : List Env} {a0 : Value} {L : Addr} {h : Heap} (x : Heap.HeldW B l ea cls a0 L h) : FlyM B l ea cls a0 h := ⟨x.1, x.2.1, x.2.2.1, .inl ⟨_, x.2.2.2⟩⟩
theorem leaves_m {A : Around} {B : Heap} {env : Env} {outer : List Env} {L : Addr} {a0 : Value} (hfr : A.frames = some (env :: outer)) (hf : env.frame = some L) (x : FlyM B (env :: outer) ea cls a0 s.heap)
    (hQ : ∀ h1, FlyM B outer ea cls a0 h1 → s.heap.UpToSlots h1 → DK s.heap h1 → Q () { s with heap := h1 }) : wpAny M A (leaving env (.ref ea)) Q E s := by
  unfold leaving
  refine wpAny_bind (looks_m hfr hf x fun h1 q1 q2 q3 => ?_)
  refine lands_m (held_m q1) fun h2 q4 q5 q6 => ?_
  obtain ⟨k1, k2, ⟨_, _, k3⟩, k4⟩ := q4
  exact hQ h2 ⟨k1, k2, k3, k4⟩ (q2.trans q5) (q3.trans q6)
theorem frs_own (hs : X.stack = X.env :: X.outer) (hf : X.env.frame = some X.env.locals) {b : Addr} : b ∈ frs X.stack ↔ b = X.env.locals ∨ b ∈ frs X.outer := by
  rw [hs]; unfold frs; rw [List.filterMap_cons, hf]; exact List.mem_cons
/-- the rest, from what stays of the heap of the last state -/
theorem fly_mk (I : Inv X pins st H s) (hs : X.stack = X.env :: X.outer) (hf : X.env.frame = some X.env.locals) (hx : X.ex = []) {h'' : Heap} (un : Un (frs X.stack) [] H H' s.heap h'') : Un (frs X.outer) [] X.H₀ H' X.s₀.heap h'' := by
  have nex : ∀ b, b ∉ X.ex := fun b z => by rw [hx] at z; cases z
  have neL : ∀ b o, X.s₀.heap.get? b = some o → b ≠ X.env.locals := fun b o e => Nat.ne_of_lt (Nat.lt_of_lt_of_le (Heap.lt_size e) I.ok.above)
  refine ⟨fun b o e n hb _ => ?_, fun b o e n hb _ => ?_, fun b o e n _ => ?_, fun b o e _ => ?_, fun b xs e => un.tups b xs (I.base.tups b xs e), fun b o u e => un.frzs b o u (I.base.frzs b o u e), fun b ps e => ?_⟩
  · exact un.keep b o (I.base.keep b o e n hb (nex b)) (I.base.free b o e n (nex b)) (fun z => ((frs_own hs hf).mp z).elim (neL b o e) hb) (by simp)
  · obtain ⟨sl, e1⟩ := I.base.slot b o e n hb (nex b)
    obtain ⟨sl', e2⟩ := un.slot b _ e1 (I.base.free b o e n (nex b)) ((frs_own hs hf).mpr (.inr hb)) (by simp)
    exact ⟨sl', e2⟩
  · obtain ⟨o', e1⟩ := I.base.there b o e (nex b)
    exact un.free b o' e1 (I.base.free b o e n (nex b)) (by simp)
  · obtain ⟨o', e1⟩ := I.base.there b o e (nex b)
    exact un.there b o' e1 (by simp)
  · obtain ⟨m1, e1⟩ := I.base.tbls b ps e
    obtain ⟨m2, e2⟩ := un.tbls b _ e1
    exact ⟨m1 ++ m2, by rw [e2, Array.append_assoc]⟩
/-- what a later station leaves of the heap of a flying exception -/
theorem fly_un {P : Program} {w : World} {outer : List Env} {e : Value} {fd : Option Nat} (F : Fly P w outer H s cls fd H' e s') {h6 : Heap} {B : Heap} (hB : ∀ b o, s.heap.get? b = some o → H b = none → b ∉ frs outer → B.get? b = some o) (hT : ∀ b o, H' b = some o → ∃ ob, B.get? b = some ob)
    (hA : ∀ b o, s.heap.get? b = some o → b ∉ frs outer → ∃ o', B.get? b = some o') (hb0 : ∀ b o, B.get? b = some o → s'.heap.get? b = some o) (hb6 : ∀ b o, B.get? b = some o → h6.get? b = some o) (hsl : s'.heap.UpToSlots h6) (hfr : ∀ b ∈ frs outer, ∃ o, s.heap.get? b = some o ∧ (∀ vs, o.data ≠ .fields vs) ∧ H b = none) :
    Un (frs outer) [] H H' s.heap h6 ∧ HOk P w H' h6 := by
  refine ⟨⟨fun b o e n hb _ => hb6 b o (hB b o e n hb), fun b o e n hb hx => ?_, F.un.free, fun b o e hx => ?_, F.un.tups, F.un.frzs, F.un.tbls⟩, hok_of F.hok fun b o u e q => ?_⟩
  · obtain ⟨sl, e1⟩ := F.un.slot b o e n hb hx
    obtain ⟨o', e', hd, _⟩ := hfr b hb
    rw [e] at e'; cases e'
    obtain ⟨sl', e2⟩ := hsl b _ e1 hd
    exact ⟨sl', e2⟩
  · by_cases hb : b ∈ frs outer
    · obtain ⟨o', e', hd, hn⟩ := hfr b hb
      rw [e] at e'; cases e'
      obtain ⟨sl, e1⟩ := F.un.slot b o e hn hb hx
      obtain ⟨sl', e2⟩ := hsl b _ e1 hd
      exact ⟨_, e2⟩
    · obtain ⟨o', e1⟩ := hA b o e hb
      exact ⟨o', hb6 b o' e1⟩
  · obtain ⟨ob, e1⟩ := hT b o e
    have := hb0 b ob e1
    rw [q] at this; cases this
    exact hb6 b _ e1
theorem fly_frames (I : Inv X pins st H s) : ∀ b ∈ frs X.stack, ∃ o, s.heap.get? b = some o ∧ (∀ vs, o.data ≠ .fields vs) ∧ H b = none := fun b hb => by
  obtain ⟨_, o, e, hd⟩ := I.stack.mem hb
  exact ⟨o, e, hd, I.stkFree b hb⟩
/-- an exception of a callee leaves this frame too -/
theorem leave_on (I : Inv X pins st H s) (hs : X.stack = X.env :: X.outer) (hf : X.env.frame = some X.env.locals) (hex : X.ex = []) {e : Value} {fd : Option Nat} (F : Fly X.prog X.w X.stack H s cls fd H' e s')
    (hQ : ∀ s'', Fly X.prog X.w X.outer X.H₀ X.s₀ cls fd H' e s'' → Q () s'') : wpAny M X.A (leaving X.env e) Q E s' := by
  obtain ⟨ea, a0, B, rfl, fl, hn, hnew, hT, hB, hA, hF⟩ := F.ex
  have fl' : FlyM B (X.env :: X.outer) ea cls a0 s'.heap := by rw [← hs]; exact fl
  refine leaves_m (by rw [← hs]; exact I.ok.frames) hf fl' fun h'' x1 x2 x3 => hQ _ ?_
  obtain ⟨un, hok⟩ := fly_un F hB hT hA fl.1 x1.1 x2 (fly_frames I)
  have nex : ∀ b, b ∉ X.ex := fun b z => by rw [hex] at z; cases z
  have neL : ∀ b o, X.s₀.heap.get? b = some o → b ≠ X.env.locals := fun b o e => Nat.ne_of_lt (Nat.lt_of_lt_of_le (Heap.lt_size e) I.ok.above)
  have new0 : ∀ b, s.heap.get? b = none → X.s₀.heap.get? b = none := fun b e => by
    cases q : X.s₀.heap.get? b with
    | none => rfl
    | some u => obtain ⟨v, e'⟩ := I.base.there _ _ q (nex _); rw [e] at e'; cases e'
  have hF' : FdH fd ea B h'' X.s₀.heap H' := fun n q => by
    obtain ⟨dN, oD, oe, z1, z2, z3, z4, z5, z6⟩ := hF.next x3 (let ⟨o, e, _⟩ := x1.there; ⟨o, e⟩) n q
    exact ⟨dN, oD, oe, z1, z2, z3, z4, z5, new0 _ z6⟩
  refine ⟨⟨ea, a0, B, rfl, x1, hn, ?_, hT, fun b o e n hb => ?_, fun b o e hb => ?_, hF'⟩, F.os.trans I.os, F.bare, fly_mk I hs hf hex un, hok⟩
  · cases q : X.s₀.heap.get? ea with
    | none => rfl
    | some u => obtain ⟨v, e⟩ := I.base.there _ _ q (nex _); rw [hnew] at e; cases e
  · exact hB b o (I.base.keep b o e n hb (nex b)) (I.base.free b o e n (nex b)) fun z => ((frs_own hs hf).mp z).elim (neL b o e) hb
  · obtain ⟨o', q⟩ := I.base.there b o e (nex b)
    exact hA b o' q fun z => ((frs_own hs hf).mp z).elim (neL b o e) hb
end

/-! ### a def: what is wanted of its exceptions -/
theorem thr_cx {P : Program} {w : World} {K : PySem.W.Frag} {mg : Str → Option Value} {base : Heap} {N : List Str} {qual : Str} {scope : Scope} {f : Addr} {cd : Value} {A : Around} {outer : List Env} {s : Shared} {H : Hp} {E : XK} {st : St} {cls : Value} {fd : Option Nat} {H' : Hp}
    (h : E cls fd H') : Thr (cxOf (CXE P w) P w K mg base N qual scope f cd A outer s H E) st cls fd H' where
  fly := fun pins H1 s1 e s' I F => leave_on I rfl rfl rfl F fun s'' G => ⟨cls, fd, H', G, h⟩
/-- one that was made in this frame, without a number -/
theorem Thr.made {X : Cx} {pins : List (Addr × Obj)} {st : St} {H' : Hp} {s : Shared} {cls : Value} {ea : Addr} {h' : Heap} {args : List Value} (t : Thr X st cls none H') (I : Inv X pins st H' s) (hx : Heap.MadeExcOf s.heap h' ea cls args) : X.xe (.ref ea) { s with heap := h' } := by
  have ff : s.heap.FunFrames (PySem.W.hideAll s.heap (frs X.stack)) X.stack := PySem.W.funFrames_hide (as := frs X.stack) I.stack (fun env he a ha => List.mem_filterMap.mpr ⟨env, he, ha⟩)
  have hid : ∀ b o, s.heap.get? b = some o → b ∉ frs X.stack → (PySem.W.hideAll s.heap (frs X.stack)).get? b = some o := fun b o e n => PySem.W.hideAll_get _ e n
  obtain ⟨t0, he, htn, ht⟩ := hx.there
  have nst : ∀ b o, H' b = some o → b ∉ frs X.stack := fun b o e z => by rw [I.stkFree b z] at e; cases e
  have hn : H' ea = none := by
    cases q : H' ea with
    | none => rfl
    | some u => obtain ⟨v, e⟩ := objOk_there (I.hok _ _ q); rw [hx.new] at e; cases e
  refine t.fly pins H' s (.ref ea) _ I ⟨⟨ea, .ref t0, PySem.W.hideAll s.heap (frs X.stack), rfl, ⟨fun b o q => hx.keeps b o (PySem.W.of_hideAll _ q), ?_, ff.of_keeps fun b o e _ => ⟨o, hx.keeps b o e, rfl⟩, .inr ⟨_, _, he, rfl, rfl, by simp, rfl, rfl⟩⟩, hn, hx.new, fun b o e => ?_, fun b o e n hb => hid b o e hb, fun b o e hb => ⟨o, hid b o e hb⟩, fun n q => by cases q⟩, rfl, I.bare, ⟨fun b o e n hb _ => hx.keeps b o e, fun b o e n hb _ => ⟨o.slots, hx.keeps b o e⟩, fun b o e n _ => n, fun b o e _ => ⟨o, hx.keeps b o e⟩, fun _ _ e => e, fun _ _ _ e => e, fun b ps e => ⟨#[], by rw [e]; simp⟩⟩, hok_of I.hok fun b o u e q => hx.keeps b u q⟩
  · cases q : (PySem.W.hideAll s.heap (frs X.stack)).get? ea with
    | none => rfl
    | some u => have := PySem.W.of_hideAll _ q; rw [hx.new] at this; cases this
  · obtain ⟨u, q⟩ := objOk_there (I.hok _ _ e)
    exact ⟨u, hid b u q (nst b o e)⟩
theorem passes_cx {P : Program} {w : World} {K : PySem.W.Frag} {mg : Str → Option Value} {base : Heap} {N : List Str} {qual : Str} {scope : Scope} {f : Addr} {cd : Value} {A : Around} {outer : List Env} {s : Shared} {H : Hp} {E : XK} :
    PassesOwn (model P w) (cxOf (CXE P w) P w K mg base N qual scope f cd A outer s H E).A (cxOf (CXE P w) P w K mg base N qual scope f cd A outer s H E).env (cxOf (CXE P w) P w K mg base N qual scope f cd A outer s H E).xe := PassesOwn.leaving

/-! ### functions -/
def endK : Fl → M D
  | .nx _ => ret .non
  | .rt d => ret d
  | .xc _ x => fun σ => .ex x σ
  | _ => bad
def runO : Out Fl → Out D
  | .ok fl σ => endK fl σ
  | _ => .bad
def run (n : Nat) (g : Ev → M Fl) (ds : List D) : M D := fun σ => runO (g (ds.map some ++ List.replicate (n - ds.length) none) σ)
def spF (T : Tb) (n : Nat) (f : List D → M D) : Sp := fun vs H Q E => ∃ μ σ ds, RepL T μ H ds vs ∧ ds.length = n ∧ Rel T μ H σ ∧ Post T E (Rep T) μ H (f ds σ) Q
def fnK (n : Nat) (f : List D → M D) (dds : List D) (ds : List D) : M D := if (ds ++ dds).length = n then f (ds ++ dds) else bad
def eFn (n : Nat) (f : List D → M D) (dds : List D) (fs : Ev → M (List D)) : Ev → M D := fun ρ => bnd (fs ρ) (fnK n f dds)
section
variable {T : Tb} {X : Cx}
theorem start_rep {μ : List Addr} {H : Hp} {ds : List D} {vs : List V} {N : List Str} (h : RepL T μ H ds vs) : ERep T μ H (ds.map some ++ List.replicate (N.length - ds.length) none) (L2.start N vs) := by
  have hl := h.length
  refine ⟨by simp [L2.start, hl], fun i d e => ?_⟩
  by_cases hi : i < ds.length
  · rw [List.getElem?_append_left (by simpa using hi), List.getElem?_map] at e
    cases e2 : ds[i]? with
    | none => rw [e2] at e; cases e
    | some x =>
      rw [e2] at e; cases e
      obtain ⟨v, h1, h2⟩ := h.get e2
      refine ⟨v, ?_, h2⟩
      unfold L2.start
      rw [List.getElem?_append_left (by simpa [← hl] using hi), List.getElem?_map, h1]; rfl
  · rw [List.getElem?_append_right (by simpa using hi), List.getElem?_replicate] at e
    split at e <;> cases e
variable {k : Nat} {f C : Addr} {fd : FuncData} {ps : List Str} {dvs : List V} {dval : List Value} {dds : List D} {x : Str} {p pos : Pos} {e : Expr} {es : List Expr} {fn : List D → M D} {fs : Ev → M (List D)} {sp : Sp} {t : TA}
/-- the callee runs -/
theorem run_fnX {pins : List (Addr × Obj)} {st : St} {H : Hp} {s : Shared} {Q : VK} {us : List Value} {vs : List V} (F : FnOk X.prog X.w X.K X.mg X.base (CXE X.prog X.w) k f fd ps sp) (hr : Room k X.A) (hb : Binds X.K fd ps dval) (hd : Vals dvs dval)
    (I : Inv X pins st H s) (r : Vals vs us) (h : sp (vs ++ dvs) H Q (XE X st)) : wpAny (model X.prog X.w) X.A (call (.ref f) us) (EP X pins st Q) X.xe s := by
  have r2 : Vals (vs ++ dvs) (us ++ dval) := r.append hd
  have hl : (us ++ dval).length = ps.length := by rw [← r2.length]; exact F.len _ _ _ _ h
  refine wpAny_call (codeAny_mono (F.run X.A X.stack s H ⟨us, []⟩ (us ++ dval) (vs ++ dvs) Q (XE X st) hr I.env0 (hb s us I.kIn hl) r2 h) fun r s' hq => ?_)
  cases r with
  | error e => obtain ⟨cls, fd, H', hfly, ht⟩ := hq; exact ht.fly pins H s e s' I hfly
  | ok fl =>
    cases fl with
    | ret u => exact I.after hq
    | next => exact False.elim hq
    | brk => exact False.elim hq
    | cont => exact False.elim hq
theorem fe_call (F : FnOk X.prog X.w X.K X.mg X.base (CXE X.prog X.w) k f fd ps (spF T ps.length fn)) (hr : Room k X.A) (hg : Gl X x) (hm : X.mg x = some (.ref f)) (hk : PySem.W.keepIn X.K (.ref f) = true) (hb : Binds X.K fd ps dval) (hd : Vals dvs dval) (hdd : ∀ μ H, RepL T μ H dds dvs)
    (ha : FA T X (e :: es) fs) (hdb : (x == ("__debug__" : Str)) = false := by decide) (he : starEach (e :: es) X.env = (false, eval e X.env) :: starEach es X.env := by rfl) (hpl : (backTo pos (starEach es X.env)).any (·.1) = false := by rfl) :
    FE T X (.Call (.Name x p) (e :: es) [] pos) (eFn ps.length fn dds fs) := by
  intro pins s st H Q I h
  refine wpAny_Call_Name_kw (ld_glob I hg hm ?_ hdb)
  obtain ⟨μ, ρ, σ, hE, hr', hp⟩ := h
  refine PySem.W.callWith_K (h₀ := X.base) I.ok.mod.kin hk (thn (ha pos pins s st H (fun vs H1 => spF T ps.length fn (vs ++ dvs) H1 Q (XE X st)) I ⟨μ, ρ, σ, hE, hr', hp.bind fun ds σ1 μ1 vs H1 _ e1 r1 p1 q1 => ?_⟩) fun us s1 ⟨vs, H1, I1, r, q⟩ => ⟨I1.kIn, ?_⟩) he hpl
  · unfold fnK at q1
    by_cases hl : (ds ++ dds).length = ps.length
    · rw [if_pos hl] at q1
      exact ⟨μ1, σ1, ds ++ dds, p1.append (hdd _ _), hl, r1, q1⟩
    · rw [if_neg hl] at q1; exact q1.elim
  · exact run_fnX F hr hb hd I1 r q
variable {P : Program} {w : World} {K : PySem.W.Frag} {mg : Str → Option Value} {base : Heap}
/-- a def by its body -/
theorem fok {x qual : Str} {st : Stmt} {N : List Str} {g : Ev → M Fl} {params : Arguments} {dV kV doc pm cdv ct oc : Value} {an od : Option Addr} {osl : Array (Option Value)}
    (lk : K.lookup f = some ⟨oc, od, .func (PySem.W.fnOf x qual params (defBody st) (defScope st) dV kV doc pm an cdv ct), osl⟩) (hcd : PySem.W.codeIn K cdv qual = true) (S : FnScope N ps (defScope st))
    (hb : ∀ (A : Around) (outer : List Env) (s : Shared) (H : Hp) (E : XK), Room k (A.deeper (envOfC qual (defScope st) s.heap.objs.size f cdv)) → FSs T (cxOf (CXE P w) P w K mg base N qual (defScope st) f cdv A outer s H E) (defBody st) g) :
    FnOk P w K mg base (CXE P w) (k + 1) f (PySem.W.fnOf x qual params (defBody st) (defScope st) dV kV doc pm an cdv ct) ps (spF T ps.length (run N.length g)) := by
  refine fn_of lk hcd S (fun vs H Q E h => ?_) (fun A outer s H vs Q E hr h => ?_)
  · obtain ⟨μ, σ, ds, h1, h2, _⟩ := h
    rw [← h1.length]; exact h2
  · obtain ⟨μ, σ, ds, h1, h2, h3, h4⟩ := h
    refine ⟨_, hb A outer s H E hr, μ, _, σ, start_rep h1, h3, ?_⟩
    unfold run at h4
    cases eg : g (ds.map some ++ List.replicate (N.length - ds.length) none) σ with
    | bad => rw [eg] at h4; exact h4
    | ex x σ1 => rw [eg] at h4; exact h4.elim
    | ok fl σ1 =>
      rw [eg] at h4
      intro μ1 gl H1 e1 r1 q1
      have p1 := h4.mono e1
      cases fl with
      | nx ρ2 => cases gl with
        | nx st2 => have z : Q V.non H1 := Post.here (d := D.non) p1 r1 (by rw [Rep]); exact z
        | _ => exact q1.elim
      | rt d2 => cases gl with
        | rt v2 => have z : Q v2 H1 := Post.here (d := d2) p1 r1 q1; exact z
        | _ => exact q1.elim
      | xc ρ2 x2 => cases gl with
        | xc st2 c2 fd2 =>
          obtain ⟨_, rfl, rfl⟩ := q1
          exact thr_cx (p1 μ1 H1 (Ext.refl _ _) r1)
        | _ => exact q1.elim
      | _ => exact p1.elim
/-- .. what it made being data -/
theorem fok_frz (F : FnOk P w K mg base (CXE P w) k f fd ps (spF T ps.length fn)) : FnOk P w K mg base (CXE P w) k f fd ps (spF T ps.length (fun ds => frz (fn ds))) :=
  F.imp fun vs H Q E h => by
    obtain ⟨μ, σ, ds, h1, h2, h3, h4⟩ := h
    exact ⟨μ, σ, ds, h1, h2, h3, Post.frz h3 h4⟩
end
end L4

namespace L4
open PySem PySem.Spec PyProof.Rows L2

/-! ### a comprehension's cells -/
def clOf (env : Env) (names : List (Str × NameKind)) (acc : List (Str × Addr)) : List (Str × Addr) :=
  names.foldl (fun cs y => if (y.2 == .free) = true then (match env.cells.lookup y.1 with | some c => (y.1, c) :: cs | none => cs) else cs) acc
theorem closure_go (env : Env) : ∀ (names : List (Str × NameKind)) (acc : List (Str × Addr)), (∀ y ∈ names, y.2 = .free → ∃ c, env.cells.lookup y.1 = some c) →
    (forIn names acc (fun x (cs : List (Str × Addr)) => match x with | (name, kind) => if (kind == .free) = true then (do let a ← cellOf env name; pure (ForInStep.yield ((name, a) :: cs))) else pure (ForInStep.yield cs)) : Sem (List (Str × Addr))) = pure (clOf env names acc)
  | [], acc, _ => rfl
  | (n, k) :: r, acc, h => by
    rw [List.forIn_cons]
    by_cases hk : (k == NameKind.free) = true
    · obtain ⟨c, hc⟩ := h (n, k) List.mem_cons_self (by simpa using hk)
      have e1 : cellOf env n = pure c := by unfold cellOf; rw [hc]
      simp only [hk, if_true, e1]
      show (forIn r ((n, c) :: acc) _ : Sem (List (Str × Addr))) = _
      rw [closure_go env r ((n, c) :: acc) fun y hy => h y (List.mem_cons_of_mem _ hy)]
      have e2 : clOf env ((n, k) :: r) acc = clOf env r ((n, c) :: acc) := by
        unfold clOf; rw [List.foldl_cons]; simp only [hk, if_true, hc]
      rw [e2]
    · simp only [hk]
      show (forIn r acc _ : Sem (List (Str × Addr))) = _
      rw [closure_go env r acc fun y hy => h y (List.mem_cons_of_mem _ hy)]
      have e2 : clOf env ((n, k) :: r) acc = clOf env r acc := by
        unfold clOf; rw [List.foldl_cons]; simp only [hk]; rfl
      rw [e2]
theorem closure_is (env : Env) (scope : Scope) (h : ∀ y ∈ scope.names, y.2 = .free → ∃ c, env.cells.lookup y.1 = some c) : closureFor scope env = pure (clOf env scope.names []) := by
  have e := closure_go env scope.names [] h
  unfold closureFor
  simp only [bind_pure]
  exact e
theorem cl_sub (env : Env) : ∀ (names : List (Str × NameKind)) (acc : List (Str × Addr)) (n : Str) (c : Addr), (∀ n c, acc.lookup n = some c → env.cells.lookup n = some c) → (clOf env names acc).lookup n = some c → env.cells.lookup n = some c
  | [], acc, n, c, h, e => h n c e
  | (y, k) :: r, acc, n, c, h, e => by
    unfold clOf at e
    rw [List.foldl_cons] at e
    refine cl_sub env r _ n c (fun n c q => ?_) e
    by_cases hk : (k == NameKind.free) = true
    · simp only [hk, if_true] at q
      cases hc : env.cells.lookup y with
      | none => rw [hc] at q; exact h n c q
      | some c' =>
        rw [hc] at q
        rw [List.lookup_cons] at q
        cases hn : (n == y) with
        | true => rw [hn] at q; cases q; rw [eq_of_beq hn]; exact hc
        | false => rw [hn] at q; exact h n c q
    · simp only [hk] at q; exact h n c q
theorem cl_keep (env : Env) : ∀ (names : List (Str × NameKind)) (acc : List (Str × Addr)) (n : Str), (∃ c, acc.lookup n = some c) → ∃ c, (clOf env names acc).lookup n = some c
  | [], acc, n, h => h
  | (y, k) :: r, acc, n, h => by
    unfold clOf
    rw [List.foldl_cons]
    refine cl_keep env r _ n ?_
    by_cases hk : (k == NameKind.free) = true
    · simp only [hk, if_true]
      cases hc : env.cells.lookup y with
      | none => exact h
      | some c' =>
        show ∃ c, List.lookup n ((y, c') :: acc) = some c
        rw [List.lookup_cons]
        cases hn : (n == y) with
        | true => exact ⟨c', rfl⟩
        | false => exact h
    · simp only [hk]; exact h
theorem cl_has (env : Env) : ∀ (names : List (Str × NameKind)) (acc : List (Str × Addr)) (n : Str), (n, NameKind.free) ∈ names → (∃ c, env.cells.lookup n = some c) → ∃ c, (clOf env names acc).lookup n = some c
  | [], acc, n, h, _ => nomatch h
  | (y, k) :: r, acc, n, h, hc => by
    unfold clOf
    rw [List.foldl_cons]
    rcases List.mem_cons.mp h with e | e
    · cases e
      refine cl_keep env r _ _ ?_
      obtain ⟨c, hc⟩ := hc
      refine ⟨c, ?_⟩
      simp [hc]
    · exact cl_has env r _ n e hc
theorem relabel_lookup {env : Env} : ∀ {names : List (Str × NameKind)} {x : Str} {k : NameKind},
    (names.map fun (n, k) => if (k == NameKind.free && env.scope.kind == .function && env.kindOf n == some .cell) then (n, NameKind.cell) else (n, k)).lookup x = some k → ∃ k0, names.lookup x = some k0 ∧ (k = k0 ∨ (k0 = .free ∧ k = .cell))
  | [], _, _, h => by simp at h
  | (n, k0) :: r, x, k, h => by
    have ih := @relabel_lookup env r x k
    have h' : List.lookup x ((if (k0 == NameKind.free && env.scope.kind == .function && env.kindOf n == some .cell) = true then (n, NameKind.cell) else (n, k0)) :: (r.map fun (n, k) => if (k == NameKind.free && env.scope.kind == .function && env.kindOf n == some .cell) then (n, NameKind.cell) else (n, k))) = some k := h
    cases hx : x == n with
    | true =>
      by_cases hc : (k0 == NameKind.free && env.scope.kind == .function && env.kindOf n == some .cell) = true
      · rw [if_pos hc] at h'
        simp only [List.lookup_cons, hx] at h' ⊢
        cases h'
        simp only [Bool.and_eq_true] at hc
        exact ⟨k0, rfl, .inr ⟨by simpa using hc.1.1, rfl⟩⟩
      · rw [if_neg hc] at h'
        simp only [List.lookup_cons, hx] at h' ⊢
        cases h'
        exact ⟨k0, rfl, .inl rfl⟩
    | false =>
      by_cases hc : (k0 == NameKind.free && env.scope.kind == .function && env.kindOf n == some .cell) = true
      · rw [if_pos hc] at h'; simp only [List.lookup_cons, hx] at h' ⊢; exact ih h'
      · rw [if_neg hc] at h'; simp only [List.lookup_cons, hx] at h' ⊢; exact ih h'
theorem relabel_free {env : Env} : ∀ {names : List (Str × NameKind)} {x : Str}, names.lookup x = some .free →
    (names.map fun (n, k) => if (k == NameKind.free && env.scope.kind == .function && env.kindOf n == some .cell) then (n, NameKind.cell) else (n, k)).lookup x = some .cell ∨
    (names.map fun (n, k) => if (k == NameKind.free && env.scope.kind == .function && env.kindOf n == some .cell) then (n, NameKind.cell) else (n, k)).lookup x = some .free
  | [], _, h => by simp at h
  | (n, k) :: r, x, h => by
    have ih := @relabel_free env r x
    have goal : ∀ z, List.lookup x ((if (k == NameKind.free && env.scope.kind == .function && env.kindOf n == some .cell) = true then (n, NameKind.cell) else (n, k)) :: (r.map fun (n, k) => if (k == NameKind.free && env.scope.kind == .function && env.kindOf n == some .cell) then (n, NameKind.cell) else (n, k))) = z →
      (List.map (fun (n, k) => if (k == NameKind.free && env.scope.kind == .function && env.kindOf n == some .cell) then (n, NameKind.cell) else (n, k)) ((n, k) :: r)).lookup x = z := fun z e => e
    cases hx : x == n with
    | true =>
      simp only [List.lookup_cons, hx] at h
      cases h
      by_cases hc : (NameKind.free == NameKind.free && env.scope.kind == .function && env.kindOf n == some .cell) = true
      · exact .inl (goal _ (by rw [if_pos hc]; simp only [List.lookup_cons, hx]))
      · exact .inr (goal _ (by rw [if_neg hc]; simp only [List.lookup_cons, hx]))
    | false =>
      simp only [List.lookup_cons, hx] at h
      have e : List.lookup x ((if (k == NameKind.free && env.scope.kind == .function && env.kindOf n == some .cell) = true then (n, NameKind.cell) else (n, k)) :: (r.map fun (n, k) => if (k == NameKind.free && env.scope.kind == .function && env.kindOf n == some .cell) then (n, NameKind.cell) else (n, k))) =
          (r.map fun (n, k) => if (k == NameKind.free && env.scope.kind == .function && env.kindOf n == some .cell) then (n, NameKind.cell) else (n, k)).lookup x := by
        by_cases hc : (k == NameKind.free && env.scope.kind == .function && env.kindOf n == some .cell) = true
        · rw [if_pos hc]; simp only [List.lookup_cons, hx]
        · rw [if_neg hc]; simp only [List.lookup_cons, hx]
      rcases ih h with q | q
      · exact .inl (goal _ (e.trans q))
      · exact .inr (goal _ (e.trans q))
theorem mem_of_lk {names : List (Str × NameKind)} {x : Str} {k : NameKind} (h : names.lookup x = some k) : (x, k) ∈ names := PySem.mem_of_lookup h

/-! ### the block -/
def blk (X : Cx) (N' : List Str) (scope : Scope) (cl : List (Str × Addr)) (C : Addr) (s₀ : Shared) (H₀ : Hp) (ex : List Addr) : Cx :=
  { X with N := N', s₀ := s₀, H₀ := H₀, env := compEnvC scope cl C X.env, outer := X.stack, stack := X.stack, ex := ex, fn := fun _ => false, pn := [], xe := fun _ _ => False }
/-- what of the scopes a comprehension's rule asks; each by rfl -/
structure LcOk (X : Cx) (x : Str) (M' : List Str) (ix : List Nat) (scope : Scope) : Prop where
  kind : scope.kind = .function
  cell : (scope.names.all fun y => !(y.2 == .cell)) = true
  names : (scope.names.all fun y => !(y.2 == .local) || scope.names.lookup y.1 == some .local) = true
  free : (scope.names.all fun y => !(y.2 == .free) || (X.env.scope.names.lookup y.1 == some .cell || X.env.scope.names.lookup y.1 == some .free)) = true
  at_ : ix.map (fun i => X.N[i]?) = M'.map some
  vis : (M'.all fun y => (X.env.scope.names.lookup y == some .cell || X.env.scope.names.lookup y == some .free) && scope.names.lookup y == some .free) = true
def blkEv (ix : List Nat) (ρ : Ev) : Ev := none :: ix.map fun i => (ρ[i]?).getD none
def blkSt (ix : List Nat) (st : St) : St := none :: ix.map fun i => (st[i]?).getD none
theorem blk_rep {T : Tb} {μ : List Addr} {H : Hp} {ρ : Ev} {st : St} (ix : List Nat) (h : ERep T μ H ρ st) : ERep T μ H (blkEv ix ρ) (blkSt ix st) := by
  refine ⟨by simp [blkEv, blkSt], fun i d e => ?_⟩
  cases i with
  | zero => simp [blkEv] at e
  | succ j =>
    have e' : (ix.map fun i => (ρ[i]?).getD none)[j]? = some (some d) := e
    rw [List.getElem?_map] at e'
    cases ej : ix[j]? with
    | none => rw [ej] at e'; cases e'
    | some i0 =>
      rw [ej] at e'
      have e2 : (ρ[i0]?).getD none = some d := Option.some.inj e'
      have e3 : ρ[i0]? = some (some d) := by
        cases q : ρ[i0]? with
        | none => rw [q] at e2; cases e2
        | some o => rw [q] at e2; exact congrArg some e2
      obtain ⟨v, h1, h2⟩ := h.2 i0 d e3
      refine ⟨v, ?_, h2⟩
      show (ix.map fun i => (st[i]?).getD none)[j]? = _
      rw [List.getElem?_map, ej]
      show some ((st[i0]?).getD none) = _
      rw [h1]; rfl
section
variable {X : Cx} {pins : List (Addr × Obj)} {st : St} {H : Hp} {s : Shared} {x : Str} {M' : List Str} {ix : List Nat} {scope : Scope} {fp : List Addr}
theorem free_of (L : LcOk X x M' ix scope) (y : Str × NameKind) (hy : y ∈ scope.names) (e : y.2 = .free) : X.env.kindOf y.1 = some .cell ∨ X.env.kindOf y.1 = some .free := by
  have q := List.all_eq_true.mp L.free y hy
  rw [e] at q
  simp only [beq_self_eq_true, Bool.not_true, Bool.false_or, Bool.or_eq_true] at q
  rcases q with q | q
  · exact .inl (eq_of_beq q)
  · exact .inr (eq_of_beq q)
theorem clos_of (I : Inv X pins st H s) (L : LcOk X x M' ix scope) : ∀ y ∈ scope.names, y.2 = .free → ∃ c, X.env.cells.lookup y.1 = some c := fun y hy e => I.ok.has y.1 (free_of L y hy e)
theorem nocell (L : LcOk X x M' ix scope) : ∀ y ∈ scope.names, y.2 ≠ .cell := fun y hy e => by
  have q := List.all_eq_true.mp L.cell y hy
  rw [e] at q
  simp at q
/-- the block's beginning -/
theorem blk_start (I : Inv X pins st H s) (L : LcOk X x M' ix scope) (hfp : ∀ b ∈ fp, FpOk X pins H b ∧ b < s.heap.objs.size) {h' : Heap} {t' : Nat} {m : Str → Option Value} (hns : h'.Ns s.heap.objs.size m)
    (hk : ∀ b o, s.heap.get? b = some o → h'.get? b = some o) :
    Inv (blk X (x :: M') scope (clOf X.env scope.names []) s.heap.objs.size s H fp) [] (blkSt ix st) H { s with heap := h', toks := t' } := by
  have sub : ∀ n c, (clOf X.env scope.names []).lookup n = some c → X.env.cells.lookup n = some c := fun n c e => cl_sub X.env scope.names [] n c (fun _ _ q => by simp at q) e
  have cellLt : ∀ n c, X.env.cells.lookup n = some c → c < s.heap.objs.size := fun n c e => by obtain ⟨v, z⟩ := I.cell n c e; exact z.lt
  have fresh : H s.heap.objs.size = none := I.hok.fresh (Nat.le_refl _)
  refine ⟨⟨I.ok.mod, L.kind, I.ok.glob, I.ok.blt, Nat.le_refl _, fun a b c h1 h2 => I.ok.inj a b c (sub a c h1) (sub b c h2), fun a ha => ?_, fun a c h => (by cases h), I.ok.hd, I.ok.frames, .inl rfl, fun b hb => ⟨Nat.ne_of_lt (hfp b hb).2, fun a c e => ?_⟩, fun b o e => I.bs b o e, Nat.le_trans I.ok.bsz I.sz, fun b o e hb => ?_, fun b hb z => ?_, I.stack, I.stkFree⟩,
    rfl, I.bare, Un.kept hk, ⟨m, hns, fun i y v e1 e2 e3 => ?_⟩, fun a c e => ?_, fresh, fun a c e => I.freeC a c (sub a c e), fun p hp => absurd (show p ∈ ([] : List (Addr × Obj)) from hp) (by simp), I.hok.kept hk, ?_⟩
  · -- has
    have ha' : (scope.names.map fun (n, k) => if (k == NameKind.free && X.env.scope.kind == .function && X.env.kindOf n == some .cell) then (n, NameKind.cell) else (n, k)).lookup a = some .cell ∨ (scope.names.map fun (n, k) => if (k == NameKind.free && X.env.scope.kind == .function && X.env.kindOf n == some .cell) then (n, NameKind.cell) else (n, k)).lookup a = some .free := ha
    have hf : scope.names.lookup a = some .free := by
      rcases ha' with z | z
      · obtain ⟨k0, h1, h2⟩ := relabel_lookup z
        rcases h2 with h2 | ⟨h2, _⟩
        · subst h2; exact absurd rfl (nocell L _ (mem_of_lk h1))
        · rw [h2] at h1; exact h1
      · obtain ⟨k0, h1, h2⟩ := relabel_lookup z
        rcases h2 with h2 | ⟨_, h2⟩
        · rw [← h2] at h1; exact h1
        · cases h2
    exact cl_has X.env scope.names [] a (mem_of_lk hf) (clos_of I L _ (mem_of_lk hf) rfl)
  · exact (hfp b hb).1.2.2.2.2.1 a c (sub a c e)
  · rcases (hfp b hb).1.2.2.2.1 with z | z
    · exact I.ok.noex b o e z
    · exact absurd (Nat.lt_of_lt_of_le (Heap.lt_size e) (Nat.le_trans I.ok.bsz z)) (Nat.lt_irrefl _)
  · rcases List.mem_cons.mp (I.stkSub b z) with q | q
    · exact (hfp b hb).1.2.1 q
    · exact (hfp b hb).1.2.2.1 q
  · -- loc
    cases i with
    | zero => simp [blkSt] at e2
    | succ j =>
      have e1' : M'[j]? = some y := e1
      have e2' : (ix.map fun i => (st[i]?).getD none)[j]? = some (some v) := e2
      rw [List.getElem?_map] at e2'
      cases ej : ix[j]? with
      | none => rw [ej] at e2'; cases e2'
      | some i0 =>
        rw [ej] at e2'
        have e4 : (st[i0]?).getD none = some v := Option.some.inj e2'
        have e5 : st[i0]? = some (some v) := by
          cases q : st[i0]? with
          | none => rw [q] at e4; cases e4
          | some o => rw [q] at e4; exact congrArg some e4
        have e6 : X.N[i0]? = some y := by
          have z := congrArg (fun l => l[j]?) L.at_
          simp only [List.getElem?_map, ej, e1', Option.map_some] at z
          exact Option.some.inj z
        have q := List.all_eq_true.mp L.vis y (List.mem_of_getElem? e1')
        simp only [Bool.and_eq_true, Bool.or_eq_true] at q
        have kx : X.env.scope.names.lookup y = some .cell ∨ X.env.scope.names.lookup y = some .free := by
          rcases q.1 with z | z
          · exact .inl (eq_of_beq z)
          · exact .inr (eq_of_beq z)
        have ky : scope.names.lookup y = some .free := eq_of_beq q.2
        obtain ⟨m0, hn0, hl0⟩ := I.loc
        obtain ⟨u, ru, lu⟩ := hl0 i0 y v e6 e5 (by rcases kx with z | z; exact .inr (.inl z); exact .inr (.inr z))
        refine ⟨u, ru, .inr ⟨relabel_free (env := X.env) ky, ?_⟩⟩
        rcases lu with ⟨z, _⟩ | ⟨_, c, ec, zc⟩
        · rcases kx with k | k
          · rw [show X.env.kindOf y = X.env.scope.names.lookup y from rfl, k] at z; cases z
          · rw [show X.env.kindOf y = X.env.scope.names.lookup y from rfl, k] at z; cases z
        · obtain ⟨c', hc'⟩ := cl_has X.env scope.names [] y (mem_of_lk ky) (clos_of I L _ (mem_of_lk ky) rfl)
          have e7 := sub y c' hc'
          rw [ec] at e7; cases e7
          obtain ⟨o, ho, hd⟩ := zc
          exact ⟨c, hc', o, hk _ _ ho, hd⟩
  · obtain ⟨v, o, ho, hd⟩ := I.cell a c (sub a c e)
    exact ⟨v, o, hk _ _ ho, hd⟩
  · simp [blkSt, blk]
    have z := congrArg List.length L.at_
    simpa using z
end
end L4

namespace L4
open PySem PySem.Spec PyProof.Rows L2

/-! ### the comprehension -/
def nox {α : Type} (m : M α) : M α := fun σ => match m σ with
  | .ex _ _ => .bad
  | o => o
theorem Post.bind0 {α β γ δ : Type} {T : Tb} {E E0 : XK} {R : List Addr → Hp → α → γ → Prop} {R' : List Addr → Hp → β → δ → Prop} {μ : List Addr} {H : Hp} {m : M α} {k : α → M β} {σ : Sto} {Q : δ → Hp → Prop} {Q1 : γ → Hp → Prop}
    (h : Post T E R' μ H (bnd (nox m) k σ) Q) (f : ∀ a σ1 μ1 g H1, m σ = .ok a σ1 → Ext μ H μ1 H1 → Rel T μ1 H1 σ1 → R μ1 H1 a g → Post T E R' μ1 H1 (k a σ1) Q → Q1 g H1) : Post T E0 R μ H (m σ) Q1 := by
  unfold bnd nox at h
  cases e : m σ with
  | ok a σ1 =>
    simp only [e] at h
    exact fun μ' g H' e' r q => f a σ1 μ' g H' e e' r q (h.mono e')
  | ex x σ1 => simp only [e] at h; exact h.elim
  | bad => simp only [e] at h; exact h
def lcLoop (nx : Src) (n : Nat) (tg : D → Ev → Option Ev) (fi : Ev → M Bool) (fe : Ev → M D) : Nat → Nat → Ev → M Unit
  | 0, _, _ => bad
  | k + 1, i, ρ => fun σ => match nx.nx i σ with
    | none => .bad
    | some none => .ok () σ
    | some (some d) => match tg d ρ with
      | none => .bad
      | some ρ1 => bnd (nox (fi ρ1)) (fun c => if c = true then bnd (nox (fe ρ1)) fun y => bnd (oAppend (.ref n) [y]) fun _ => lcLoop nx n tg fi fe k (i + 1) ρ1 else lcLoop nx n tg fi fe k (i + 1) ρ1) σ
def lcK (tg : D → Ev → Option Ev) (fi : Ev → M Bool) (fe : Ev → M D) (ρ : Ev) (nx : Src) : M D := fun σ =>
  bnd (lcLoop nx σ.length tg fi fe 1001 0 ρ) (fun _ => ret (.ref σ.length)) (σ ++ [.lst []])
def eLC (src : Ev → M Src) (ix : List Nat) (tg : D → Ev → Option Ev) (fi : Ev → M Bool) (fe : Ev → M D) : Ev → M D := fun ρ => bnd (src ρ) (lcK tg fi fe (blkEv ix ρ))
def FIf (T : Tb) (X : Cx) (ifs : List Expr) (f : Ev → M Bool) : Prop :=
  ∀ (pins : List (Addr × Obj)) (s : Shared) (st : St) (H : Hp) (Q : Bool → Hp → Prop), Inv X pins st H s → tT T X f st H Q →
    wpAny (model X.prog X.w) X.A (forIn ifs true fun c r => if r = true then do let ok ← isTrue c X.env (eval c X.env); pure (ForInStep.yield ok) else pure (ForInStep.yield r)) (TP X pins st Q) X.xe s
def bTrue : Ev → M Bool := fun _ => ret true
section
variable {T : Tb} {X : Cx}
theorem fif_nil : FIf T X [] bTrue := by
  intro pins s st H Q I h
  obtain ⟨μ, ρ, σ, hE, hr, hp⟩ := h
  exact wpAny_tests_nil ⟨H, I, Post.here hp hr rfl⟩
theorem fif_one {c : Expr} {f : Ev → M Bool} (h : FT T X c f) : FIf T X [c] f := fun pins s st H Q I hw => wpAny_tests_one (h pins s st H Q I hw)
theorem un_same {fs ex : List Addr} {H H' : Hp} {h h1 h2 : Heap} {C : Addr} (u : Un fs ex H H' h h1) (hs : Heap.SameBut C h1 h2) (hC : h.objs.size ≤ C) : Un fs ex H H' h h2 := by
  have ne : ∀ b o, h.get? b = some o → b ≠ C := fun b o e => Nat.ne_of_lt (Nat.lt_of_lt_of_le (Heap.lt_size e) hC)
  refine ⟨fun b o e n hb hx => (hs.2 b (ne b o e)).trans (u.keep b o e n hb hx), fun b o e n hb hx => ?_, u.free, fun b o e hx => ?_, u.tups, u.frzs, u.tbls⟩
  · obtain ⟨sl, q⟩ := u.slot b o e n hb hx
    exact ⟨sl, (hs.2 b (ne b o e)).trans q⟩
  · obtain ⟨o', q⟩ := u.there b o e hx
    exact ⟨o', (hs.2 b (ne b o e)).trans q⟩
theorem hok_same {P : Program} {w : World} {H : Hp} {h1 h2 : Heap} {C : Addr} (ok : HOk P w H h1) (hs : Heap.SameBut C h1 h2) (hC : H C = none) : HOk P w H h2 := fun b ob e => by
  refine (ok b ob e).stay (fun c w' hc q => (hs.2 c ?_).trans q) (fun _ q => q) fun _ _ q => q
  rintro rfl
  rcases hc with rfl | hc
  · rw [hC] at e; cases e
  · rw [hC] at hc; cases hc
theorem app_rel {E : XK} {μ : List Addr} {H : Hp} {σ : Sto} {n : Nat} {a : Addr} {y : D} {v : V} {Q : VK} (r : Rel T μ H σ) (hn : μ[n]? = some a) (hy : Rep T μ H y v) (h : Post T E (Rep T) μ H (oAppend (.ref n) [y] σ) Q) : rAppend (.ref a) [v] H Q :=
  snd_append E μ H σ (.ref n) [y] (.ref a) [v] Q r (by rw [Rep]; exact ⟨a, rfl, hn⟩) (RepL.cons hy RepL.nil) h
theorem bnd_congr {α β : Type} {m m' : M α} {k : α → M β} {σ : Sto} (h : m σ = m' σ) : bnd m k σ = bnd m' k σ := by unfold bnd; rw [h]
theorem bnd_assoc {α β γ : Type} {m : M α} {k : α → M β} {l : β → M γ} : bnd (bnd m k) l = bnd m fun a => bnd (k a) l := by
  funext σ; unfold bnd; cases m σ <;> rfl
theorem lc_core {E : XK} {elt iter tgt : Expr} {ifs : List Expr} {scope : Scope} {pos : Pos} {x : Str} {M' : List Str} {ix : List Nat} {tg : D → Ev → Option Ev} {fi : Ev → M Bool} {fe : Ev → M D}
    {pins : List (Addr × Obj)} {st : St} {H3 : Hp} {s3 : Shared} {h₁ : Heap} {t' : Nat} {m : Str → Option Value} {fp : List Addr} {it D0 : Addr} {tn : Nat → Heap → Prop} {J : It} {nx : Src} {μ3 : List Addr} {σ3 : Sto} {ρ : Ev} {n : Nat} {Q : VK}
    (hc : X.calm = true) (L : LcOk X x M' ix scope)
    (htg : ∀ cl C s₀ H₀ ex, FG T (blk X (x :: M') scope cl C s₀ H₀ ex) tgt tg)
    (hif : ∀ cl C s₀ H₀ ex, FIf T (blk X (x :: M') scope cl C s₀ H₀ ex) ifs fi)
    (helt : ∀ cl C s₀ H₀ ex, FE T (blk X (x :: M') scope cl C s₀ H₀ ex) elt fe)
    (I3 : Inv X pins st H3 s3) (hfp : ∀ b ∈ fp, FpOk X pins H3 b ∧ b < s3.heap.objs.size) (hns : h₁.Ns s3.heap.objs.size m) (kp : ∀ b o, s3.heap.get? b = some o → h₁.get? b = some o)
    (TT : Turn X.prog X.w X.K tgt J fp it tn) (hst4 : tn 0 h₁) (so : SrcOk T μ3 H3 nx J) (hE : ERep T μ3 H3 ρ st) (r3 : Rel T μ3 H3 σ3) (hn : μ3[n]? = some D0)
    (p3 : Post T E (Rep T) μ3 H3 (bnd (lcLoop nx n tg fi fe 1001 0 (blkEv ix ρ)) (fun _ => ret (.ref n)) σ3) Q) {RR : Result → Shared → Prop}
    (fin : ∀ (s6 : Shared) (H' : Hp) (m6 : Str → Option Value), s6.heap.Ns s3.heap.objs.size m6 → H' s3.heap.objs.size = none → Un (frs X.stack) fp H3 H' s3.heap s6.heap → s6.os = s3.os → HOk X.prog X.w H' s6.heap → AllBare s6.gens → Q (.ref D0) H' → RR (.ok .next) s6) :
    codeAny (model X.prog X.w) X.A (.compStart (.ListComp elt [⟨tgt, iter, ifs, 0⟩] scope pos) 0 (.ref it) (.ref D0) (compEnvC scope (clOf X.env scope.names []) s3.heap.objs.size X.env))
      RR { s3 with heap := h₁, toks := t' } := by
  have I4 := blk_start (h' := h₁) (t' := t') I3 L hfp hns kp
  let Y : Cx := blk X (x :: M') scope (clOf X.env scope.names []) s3.heap.objs.size s3 H3 fp
  have stat : ∀ {H' : Hp}, (∀ b ∈ fp, H' b = none) → ∀ b ∈ fp, FpOk Y [] H' b := fun {H'} hn b hb => ⟨hn b hb, (I4.ok.exf b hb).1, I4.ok.exfs b hb, .inl hb, (I4.ok.exf b hb).2, fun p hp => absurd (show p ∈ ([] : List (Addr × Obj)) from hp) (by simp)⟩
  have loop : codeAny (model X.prog X.w) X.A (.compLoop (.ListComp elt [⟨tgt, iter, ifs, 0⟩] scope pos) 0 (.ref it) (.ref D0) Y.env) RR { s3 with heap := h₁, toks := t' } := by
    refine codeAny_loop rfl (fun k s' => ∃ i μ' H' σ' ρ' st', Inv Y [] st' H' s' ∧ tn i s'.heap ∧ (∀ b ∈ fp, H' b = none) ∧ Ext μ3 H3 μ' H' ∧ ERep T μ' H' ρ' st' ∧ Rel T μ' H' σ' ∧
      Post T E (Rep T) μ' H' (bnd (lcLoop nx n tg fi fe k i ρ') (fun _ => ret (.ref n)) σ') Q) ?_ 1001 ⟨0, μ3, H3, σ3, blkEv ix ρ, blkSt ix st, I4, hst4, fun b hb => (hfp b hb).1.1, Ext.refl _ _, blk_rep ix hE, r3, p3⟩
    rintro k s' ⟨i, μ', H', σ', ρ', st', I', tn', fr', ex', hE', r', p'⟩
    show wpAny _ X.A ((compTurn (.ListComp elt [⟨tgt, iter, ifs, 0⟩] scope pos) 0 (.ref it) (.ref D0) Y.env).onRaise (fun x => do noteFrame x Y.env; theTreesLotGoes x)) _ _ s'
    refine wpAny_noted ?_
    rw [compTurn_list]
    refine wpAny_mono (E := fun _ _ => False) ?_ (fun _ _ z => z) (fun _ _ z => z.elim)
    refine wpAny_bind (wpAny_standAt ?_)
    cases k with
    | zero => exact p'.elim
    | succ k =>
      have so' := so μ' H' σ' i ex' r'
      cases en : nx.nx i σ' with
      | none =>
        have e1 : lcLoop nx n tg fi fe (k + 1) i ρ' σ' = .bad := by unfold lcLoop; simp only [en]
        rw [bnd_congr (m' := bad) e1] at p'
        exact p'.elim
      | some od =>
        rw [en] at so'
        cases od with
        | none =>
          have e1 : lcLoop nx n tg fi fe (k + 1) i ρ' σ' = .ok () σ' := by unfold lcLoop; simp only [en]
          rw [bnd_congr (m' := ret ()) e1] at p'
          refine wpAny_bind (thn (TT.done Y rfl rfl rfl hc i [] s' st' H' (fun _ _ => False) I' (stat fr') tn' so') fun r s6 ⟨er, I6⟩ => ?_)
          subst er
          refine wpAny_pure ?_
          obtain ⟨m6, hm6, _⟩ := I6.loc
          exact fin s6 H' m6 hm6 I6.free I6.base I6.os I6.hok I6.bare (Post.here p' r' (by rw [Rep]; exact ⟨_, rfl, ex'.get hn⟩))
        | some d =>
          refine wpAny_bind (thn (TT.item Y rfl rfl rfl hc i [] s' st' H' (fun _ _ => False) I' (stat fr') tn' so'.1) fun r s6 ⟨u, er, h6⟩ => ?_)
          subst er
          refine wpAny_bind (thn h6 fun _ s7 ⟨xv, H7, I7, r7, y7, tn7, fr7⟩ => ?_)
          obtain ⟨eH, hd⟩ := so'.2 xv H7 y7
          subst eH
          cases et : tg d ρ' with
          | none =>
            have e1 : lcLoop nx n tg fi fe (k + 1) i ρ' σ' = .bad := by unfold lcLoop; simp only [en, et]
            rw [bnd_congr (m' := bad) e1] at p'
            exact p'.elim
          | some ρ1 =>
            have e1 : lcLoop nx n tg fi fe (k + 1) i ρ' σ' = bnd (nox (fi ρ1)) (fun c => if c = true then bnd (nox (fe ρ1)) fun y => bnd (oAppend (.ref n) [y]) fun _ => lcLoop nx n tg fi fe k (i + 1) ρ1 else lcLoop nx n tg fi fe k (i + 1) ρ1) σ' := by
              conv => lhs; unfold lcLoop
              simp only [en, et]
            rw [bnd_congr e1, bnd_assoc] at p'
            have I7' := I7.pinned (stat fr7) (TT.obj _ _ tn7)
            refine wpAny_bind (thn (htg _ _ _ _ _ _ s7 st' H7 xv u (fun st8 H8 => H8 = H7 ∧ ERep T μ' H7 ρ1 st8) I7' r7 ⟨μ', σ', ρ', d, ρ1, hE', r', hd, et, fun st8 hE8 => ⟨rfl, hE8⟩⟩) fun _ s8 ⟨st8, H8, I8, eH8, hE8⟩ => ?_)
            subst eH8
            refine wpAny_bind (thn (hif _ _ _ _ _ _ s8 st8 H8 (fun c H9 => ∃ μ9 σ9, Ext μ' H8 μ9 H9 ∧ Rel T μ9 H9 σ9 ∧ Post T E (Rep T) μ9 H9 (bnd (if c = true then bnd (nox (fe ρ1)) fun y => bnd (oAppend (.ref n) [y]) fun _ => lcLoop nx n tg fi fe k (i + 1) ρ1 else lcLoop nx n tg fi fe k (i + 1) ρ1) (fun _ => ret (.ref n)) σ9) Q) I8
              ⟨μ', ρ1, σ', hE8, r', p'.bind0 fun c σ9 μ9 c' H9 _ e9 r9 q9 p9 => by cases q9; exact ⟨μ9, σ9, e9, r9, p9⟩⟩) fun c s9 ⟨H9, I9, μ9, σ9, e9, r9, p9⟩ => ?_)
            have again : ∀ {s11 : Shared} {H11 : Hp} {μ11 : List Addr} {σ11 : Sto}, Inv Y ([] ++ pinsAt fp s7.heap) st8 H11 s11 → Ext μ' H8 μ11 H11 → Rel T μ11 H11 σ11 → Post T E (Rep T) μ11 H11 (bnd (lcLoop nx n tg fi fe k (i + 1) ρ1) (fun _ => ret (.ref n)) σ11) Q →
                ∃ m, m < k + 1 ∧ ∃ i μ' H' σ' ρ' st', Inv Y [] st' H' s11 ∧ tn i s11.heap ∧ (∀ b ∈ fp, H' b = none) ∧ Ext μ3 H3 μ' H' ∧ ERep T μ' H' ρ' st' ∧ Rel T μ' H' σ' ∧ Post T E (Rep T) μ' H' (bnd (lcLoop nx n tg fi fe m i ρ') (fun _ => ret (.ref n)) σ') Q := by
              intro s11 H11 μ11 σ11 I11 e11 r11 p11
              refine ⟨k, Nat.lt_succ_self _, i + 1, μ11, H11, σ11, ρ1, st8, I11.unpinned, TT.keep _ _ _ tn7 (fun b hb o e => (I11.pin (b, o) (List.mem_append_right _ (List.mem_append_right _ (mem_pinsAt hb e)))).1), fun b hb => ?_, ex'.trans e11, hE8.mono e11, r11, p11⟩
              obtain ⟨o, e, _⟩ := TT.obj _ _ tn7 b hb
              exact (I11.pin (b, o) (List.mem_append_right _ (List.mem_append_right _ (mem_pinsAt hb e)))).2.1
            cases c with
            | false =>
              rw [if_neg Bool.false_ne_true] at p9
              exact wpAny_pure ⟨rfl, again I9 e9 r9 p9⟩
            | true =>
              rw [if_pos rfl, bnd_assoc] at p9
              refine wpAny_bind (wpAny_bind (thn (helt _ _ _ _ _ _ s9 st8 H9 (fun v H10 => ∃ y μ10 σ10, Ext μ' H8 μ10 H10 ∧ Rel T μ10 H10 σ10 ∧ Rep T μ10 H10 y v ∧ Post T E (Rep T) μ10 H10 (bnd (oAppend (.ref n) [y]) (fun _ => bnd (lcLoop nx n tg fi fe k (i + 1) ρ1) (fun _ => ret (.ref n))) σ10) Q) I9
                ⟨μ9, ρ1, σ9, hE8.mono e9, r9, p9.bind0 fun y σ10 μ10 v H10 _ e10 r10 q10 p10 => ⟨y, μ10, σ10, e9.trans e10, r10, q10, by rw [bnd_assoc] at p10; exact p10⟩⟩) fun w s10 ⟨v, H10, I10, rw10, y, μ10, σ10, e10, r10, q10, p10⟩ => ?_))
              have happ := app_rel (Q := fun _ H11 => ∃ μ11 σ11, Ext μ' H8 μ11 H11 ∧ Rel T μ11 H11 σ11 ∧ Post T E (Rep T) μ11 H11 (bnd (lcLoop nx n tg fi fe k (i + 1) ρ1) (fun _ => ret (.ref n)) σ11) Q) r10 ((ex'.trans e10).get hn) q10
                (p10.bind fun _ σ11 μ11 v11 H11 _ e11 r11 q11 p11 => ⟨μ11, σ11, e10.trans e11, r11, p11⟩)
              refine wpAny_bind (thn (mt_append (X := Y) _ s10 st8 H10 (.ref D0) [v] (.ref D0) [w] _ I10 rfl (.cons rw10 .nil) happ) fun _ s11 ⟨v11, H11, I11, _, μ11, σ11, e11, r11, p11⟩ => ?_)
              exact wpAny_pure (wpAny_pure ⟨rfl, again I11 e11 r11 p11⟩)
  exact codeAny_compStart_list loop (TT.self X.A 0 _ _ _ hst4 loop)
theorem fe_lc {elt iter tgt : Expr} {ifs : List Expr} {scope : Scope} {pos : Pos} {x : Str} {M' : List Str} {ix : List Nat} {src : Ev → M Src} {tg : D → Ev → Option Ev} {fi : Ev → M Bool} {fe : Ev → M D}
    (hc : X.calm = true) (L : LcOk X x M' ix scope) (hsrc : FI T X tgt iter src)
    (htg : ∀ cl C s₀ H₀ ex, FG T (blk X (x :: M') scope cl C s₀ H₀ ex) tgt tg)
    (hif : ∀ cl C s₀ H₀ ex, FIf T (blk X (x :: M') scope cl C s₀ H₀ ex) ifs fi)
    (helt : ∀ cl C s₀ H₀ ex, FE T (blk X (x :: M') scope cl C s₀ H₀ ex) elt fe)
    (hs : ∀ y, foldedSetIterable iter X.env y = pure y := by intro _; rfl) :
    FE T X (.ListComp elt [⟨tgt, iter, ifs, 0⟩] scope pos) (eLC src ix tg fi fe) := by
  intro pins s st H Q I h
  obtain ⟨μ, ρ, σ, hE, hr, hp⟩ := h
  rw [eval_ListComp]
  refine wpAny_comprehension_free (use := none) rfl hs (closure_is X.env scope (clos_of I L)) L.kind (fun y hy e => ?_) ?_
  · have q := List.all_eq_true.mp L.names y hy
    rw [e] at q
    simp only [beq_self_eq_true, Bool.not_true, Bool.false_or] at q
    exact eq_of_beq q
  have h1 := hsrc pins s st H (fun J H2 => ∃ nx μ2 σ2, Ext μ H μ2 H2 ∧ Rel T μ2 H2 σ2 ∧ SrcOk T μ2 H2 nx J ∧ Post T (XE X st) (Rep T) μ2 H2 (bnd (lcLoop nx σ2.length tg fi fe 1001 0 (blkEv ix ρ)) (fun _ => ret (.ref σ2.length)) (σ2 ++ [Ob.lst []])) Q) I
    ⟨μ, ρ, σ, hE, hr, hp.bind fun nx σ1 μ1 J H1 _ e1 r1 q1 p1 => ⟨nx, μ1, σ1, e1, r1, q1, p1⟩⟩
  refine thn h1 fun v s1 h2 => thn h2 fun itv s2 h3 => ?_
  obtain ⟨it, fp, tn, J, H2, rfl, I2, TT, st2, f2, nx, μ2, σ2, ex2, r2, so, p2⟩ := h3
  refine wpAny_newObj_type (wpAny_newFunctionEnv (nocell L) (by intro y hy; simp at hy) (fun h₁ hns₁ hsb₁ => ?_) L.kind)
  have I3 := I2.lnew (ys := []) (its := []) (t' := s2.toks) .nil (by simp)
  have fr2 : H2 s2.heap.objs.size = none := I2.hok.fresh (Nat.le_refl _)
  have r3 := r2.push (p := s2.heap.objs.size) (o := .lst []) (ob := .lst []) fr2 ⟨[], upd_same, RepL.nil⟩
  have ex3 : Ext μ2 H2 (μ2 ++ [s2.heap.objs.size]) (upd H2 s2.heap.objs.size (.lst [])) := ext_push fr2
  have hsz : s2.heap.objs.size < (s2.heap.push { cls := .type "list", data := .seq ([] : List Value).toArray }).objs.size := by rw [Heap.size_push]; exact Nat.lt_succ_self _
  have kp : ∀ b o, (s2.heap.push { cls := .type "list", data := .seq ([] : List Value).toArray }).get? b = some o → h₁.get? b = some o := fun b o e => hsb₁.extBut b o (Nat.ne_of_lt (Heap.lt_size e)) (Heap.get?_push_of_some _ e)
  have hfp : ∀ b ∈ fp, FpOk X pins (upd H2 s2.heap.objs.size (.lst [])) b ∧ b < (s2.heap.push { cls := .type "list", data := .seq ([] : List Value).toArray }).objs.size := fun b hb => by
    obtain ⟨o, e, _⟩ := TT.obj 0 _ st2 b hb
    have lt := Heap.lt_size e
    exact ⟨⟨by rw [upd_ne (Nat.ne_of_lt lt)]; exact (f2 b hb).1, (f2 b hb).2⟩, Nat.lt_trans lt hsz⟩
  refine lc_core (s3 := { s2 with heap := s2.heap.push { cls := .type "list", data := .seq ([] : List Value).toArray }, toks := s2.toks }) (n := σ2.length) (D0 := s2.heap.objs.size) hc L htg hif helt I3 hfp hns₁ kp TT (TT.keep 0 _ _ st2 fun b hb o e => kp b o (Heap.get?_push_of_some _ e))
    (fun μ H σ i ex r => so μ H σ i (ex3.trans ex) r) ((hE.mono ex2).mono ex3) r3 (by rw [← r2.len]; simp) (p2.mono ex3) (fun s6 H' m6 hm6 hC' hu0 hos hok6 hb6 hq => ⟨m6, hm6, fun h7 hs7 => ?_⟩)
  have hu := un_same hu0 hs7 (Nat.le_refl _)
  have I7 := L2.Inv.call' (s' := { s6 with heap := h7 }) (ch := fp) I3 hos hu (hok_same hok6 hs7 hC') hb6 (fun b hb => ⟨(hfp b hb).1.2.2.2.1, (hfp b hb).1.2.1, (hfp b hb).1.2.2.2.2.1, (hfp b hb).1.2.2.2.2.2⟩)
  exact ⟨.ref s2.heap.objs.size, H', I7, rfl, hq⟩
/-- y = [.. for ..]: the name is stored ahead of the block's end -/
theorem fs_setLC {elt iter tgt : Expr} {ifs : List Expr} {scope : Scope} {pos spos py : Pos} {x y : Str} {i : Nat} {M' : List Str} {ix : List Nat} {src : Ev → M Src} {tg : D → Ev → Option Ev} {fi : Ev → M Bool} {fe : Ev → M D}
    (hN : X.N.Nodup) (hi : X.N[i]? = some y) (hx : Loc X.env.scope y)
    (hc : X.calm = true) (L : LcOk X x M' ix scope) (hsrc : FI T X tgt iter src)
    (htg : ∀ cl C s₀ H₀ ex, FG T (blk X (x :: M') scope cl C s₀ H₀ ex) tgt tg)
    (hif : ∀ cl C s₀ H₀ ex, FIf T (blk X (x :: M') scope cl C s₀ H₀ ex) ifs fi)
    (helt : ∀ cl C s₀ H₀ ex, FE T (blk X (x :: M') scope cl C s₀ H₀ ex) elt fe)
    (hs : ∀ y, foldedSetIterable iter X.env y = pure y := by intro _; rfl)
    (hsw : swapsWith (.ListComp elt [⟨tgt, iter, ifs, 0⟩] scope pos) (some (.Name y py)) spos.line X.env = pure true := by rfl)
    (hf : X.fn y = true ∨ X.env.scope.names.lookup y = some .local := by first | exact .inl rfl | exact .inr rfl | assumption) :
    FS T X (.Assign [.Name y py] (.ListComp elt [⟨tgt, iter, ifs, 0⟩] scope pos) spos) (sSet i (eLC src ix tg fi fe)) := by
  intro pins s st H D I h
  obtain ⟨μ, ρ, σ, hE, hr, hp0⟩ := h
  have hp : Post T (XE X st) (Rep T) μ H (eLC src ix tg fi fe ρ σ) (fun v H1 => D.nx (st.set i (some v)) H1) := hp0.xs hE fun d σ1 μ1 v H1 _ e1 r1 q1 p1 => Post.here (g := Gl2.nx (st.set i (some v))) p1 r1 ((hE.mono e1).set i q1)
  rw [exec_Assign_Name_used _ _ _ _ hsw]
  refine wpAny_bind (wpAny_standAt (wpAny_bind ?_))
  show wpAny _ X.A (do let _ ← comprehension (.ListComp elt [⟨tgt, iter, ifs, 0⟩] scope pos) scope X.env _ (newList []) false (eval iter X.env) (some (assign (.Name y py) X.env))) _ _ s
  refine wpAny_bind (wpAny_mono (wpAny_comprehension_free (use := some (assign (.Name y py) X.env)) (Q := fun _ s' => SP X pins D .next s') rfl hs (closure_is X.env scope (clos_of I L)) L.kind (fun y hy e => ?_)
    ?_) (fun _ s' hq => wpAny_pure (wpAny_pure hq)) fun _ _ e => e)
  · have q := List.all_eq_true.mp L.names y hy
    rw [e] at q
    simp only [beq_self_eq_true, Bool.not_true, Bool.false_or] at q
    exact eq_of_beq q
  have h1 := hsrc pins s st H (fun J H2 => ∃ nx μ2 σ2, Ext μ H μ2 H2 ∧ Rel T μ2 H2 σ2 ∧ SrcOk T μ2 H2 nx J ∧ Post T (XE X st) (Rep T) μ2 H2 (bnd (lcLoop nx σ2.length tg fi fe 1001 0 (blkEv ix ρ)) (fun _ => ret (.ref σ2.length)) (σ2 ++ [Ob.lst []])) (fun v H1 => D.nx (st.set i (some v)) H1)) I
    ⟨μ, ρ, σ, hE, hr, hp.bind fun nx σ1 μ1 J H1 _ e1 r1 q1 p1 => ⟨nx, μ1, σ1, e1, r1, q1, p1⟩⟩
  refine thn h1 fun v s1 h2 => thn h2 fun itv s2 h3 => ?_
  obtain ⟨it, fp, tn, J, H2, rfl, I2, TT, st2, f2, nx, μ2, σ2, ex2, r2, so, p2⟩ := h3
  refine wpAny_newObj_type (wpAny_newFunctionEnv (nocell L) (by intro y hy; simp at hy) (fun h₁ hns₁ hsb₁ => ?_) L.kind)
  have I3 := I2.lnew (ys := []) (its := []) (t' := s2.toks) .nil (by simp)
  have fr2 : H2 s2.heap.objs.size = none := I2.hok.fresh (Nat.le_refl _)
  have r3 := r2.push (p := s2.heap.objs.size) (o := .lst []) (ob := .lst []) fr2 ⟨[], upd_same, RepL.nil⟩
  have ex3 : Ext μ2 H2 (μ2 ++ [s2.heap.objs.size]) (upd H2 s2.heap.objs.size (.lst [])) := ext_push fr2
  have hsz : s2.heap.objs.size < (s2.heap.push { cls := .type "list", data := .seq ([] : List Value).toArray }).objs.size := by rw [Heap.size_push]; exact Nat.lt_succ_self _
  have kp : ∀ b o, (s2.heap.push { cls := .type "list", data := .seq ([] : List Value).toArray }).get? b = some o → h₁.get? b = some o := fun b o e => hsb₁.extBut b o (Nat.ne_of_lt (Heap.lt_size e)) (Heap.get?_push_of_some _ e)
  have hfp : ∀ b ∈ fp, FpOk X pins (upd H2 s2.heap.objs.size (.lst [])) b ∧ b < (s2.heap.push { cls := .type "list", data := .seq ([] : List Value).toArray }).objs.size := fun b hb => by
    obtain ⟨o, e, _⟩ := TT.obj 0 _ st2 b hb
    have lt := Heap.lt_size e
    exact ⟨⟨by rw [upd_ne (Nat.ne_of_lt lt)]; exact (f2 b hb).1, (f2 b hb).2⟩, Nat.lt_trans lt hsz⟩
  refine lc_core (s3 := { s2 with heap := s2.heap.push { cls := .type "list", data := .seq ([] : List Value).toArray }, toks := s2.toks }) (n := σ2.length) (D0 := s2.heap.objs.size) hc L htg hif helt I3 hfp hns₁ kp TT (TT.keep 0 _ _ st2 fun b hb o e => kp b o (Heap.get?_push_of_some _ e))
    (fun μ H σ i ex r => so μ H σ i (ex3.trans ex) r) ((hE.mono ex2).mono ex3) r3 (by rw [← r2.len]; simp) (p2.mono ex3) (fun s6 H' m6 hm6 hC' hu0 hos hok6 hb6 hq => ?_)
  have I6 := L2.Inv.call' (s' := s6) (ch := fp) I3 hos hu0 hok6 hb6 (fun b hb => ⟨(hfp b hb).1.2.2.2.1, (hfp b hb).1.2.1, (hfp b hb).1.2.2.2.2.1, (hfp b hb).1.2.2.2.2.2⟩)
  have ltL : X.env.locals < (s2.heap.push { cls := .type "list", data := .seq ([] : List Value).toArray }).objs.size := I3.lt
  have ltC : ∀ z c, X.env.cells.lookup z = some c → c < (s2.heap.push { cls := .type "list", data := .seq ([] : List Value).toArray }).objs.size := fun z c e => by
    obtain ⟨v, q⟩ := I3.cell z c e; exact q.lt
  show wpAny _ X.A (assign (.Name y py) X.env (.ref s2.heap.objs.size)) _ _ s6
  refine wpAny_assign_Name (store_ok2 (v := .ref s2.heap.objs.size) I6 hN hi hx rfl (fun s7 I7 ⟨a, sb, ha⟩ => ?_) hf)
  have neC : a ≠ (s2.heap.push { cls := .type "list", data := .seq ([] : List Value).toArray }).objs.size := by
    rcases ha with rfl | ha
    · exact Nat.ne_of_lt ltL
    · exact Nat.ne_of_lt (ltC _ _ ha)
  refine ⟨m6, hm6.sameBut sb (Ne.symm neC), fun h8 hs8 => ?_⟩
  refine ⟨st.set i (some (.ref s2.heap.objs.size)), H', ?_, hq⟩
  exact I7.turned (t' := s7.toks) (it := (s2.heap.push { cls := .type "list", data := .seq ([] : List Value).toArray }).objs.size) (fun b o hb e => (hs8.2 b hb).trans e) hC' (Nat.ne_of_gt ltL) (.inr (Nat.le_trans I3.sz (Nat.le_refl _))) (fun z c e => Nat.ne_of_lt (ltC z c e)) (fun p hp => Nat.ne_of_lt (Heap.lt_size (I3.pin p hp).1))
end
end L4

namespace L4
open PySem PySem.Spec PyProof.Rows L2

/-! ### + of ints, tuples, lists -/
def oAddL (x y : D) : M D := fun σ => match lsOf σ x, lsOf σ y with
  | some xs, some ys => if xs.length + ys.length ≤ cap then .ok (.lst (xs ++ ys)) σ else .bad
  | _, _ => .bad
def oAdd (x y : D) : M D := match x, y with
  | .int i, .int j => ret (.int (i + j))
  | .tup xs, .tup ys => if xs.length + ys.length ≤ cap then ret (.tup (xs ++ ys)) else bad
  | .str a, .str b => if a.length + b.length ≤ 100000 then ret (.str (a ++ b)) else bad
  | x, y => oAddL x y
theorem str_small {n : Nat} (h : n ≤ 100000) : n ≤ sizeLine := Nat.le_trans h (by decide)
section
variable {T : Tb} {X : Cx} {a b c : Expr} {fa fb fc : Ev → M D} {pos : Pos}
theorem cat_tup0 {prog : Program} {w : World} {A : Around} {F : Value → Shared → Prop} {s : Shared} {t b : Addr} {ws : List Value} {Q : Value → Shared → Prop} (ht : IsTup s.heap t (#[] : Array Value)) (hb : IsTup s.heap b ws.toArray) (h1 : Q (.ref b) s) : wpAny (model prog w) A (binaryOp .Add (.ref t) (.ref b)) Q F s := by
  obtain ⟨⟨cls, dd, data, sl⟩, ho, hc, n, hd⟩ := id ht
  obtain ⟨⟨cls2, dd2, data2, sl2⟩, ho2, hc2, n2, hd2⟩ := id hb
  simp only at hc hd hc2 hd2
  subst hc hd hc2 hd2
  exact concat_meets ⟨_, ho, rfl⟩ ⟨_, ho2, rfl⟩ noFill_tuple_add seq_tuple_add PySem.F.slot_tuple_add PySem.F.entry_tuple_add (PySem.F.args_tuple_add_2 _ _)
    (tuple_addW0 t b #[] ws.toArray n n2 dd dd2 sl sl2 rfl) ⟨ho, ho2, h1⟩
theorem addL_snd {E : XK} {μ : List Addr} {H : Hp} {σ : Sto} {x y : D} {v u : V} {v' u' : Value} {Q : VK} {pins : List (Addr × Obj)} {s : Shared} {st : St} (I : Inv X pins st H s) (rv : RelV v v') (ru : RelV u u') (r : Rel T μ H σ) (hx : Rep T μ H x v) (hy : Rep T μ H y u) (hp : Post T E (Rep T) μ H (oAddL x y σ) Q) :
    wpAny (model X.prog X.w) X.A (binaryOp .Add v' u') (EP X pins st Q) X.xe s := by
  unfold oAddL at hp
  cases e1 : lsOf σ x with
  | none => rw [e1] at hp; exact hp.elim
  | some xs =>
    cases e2 : lsOf σ y with
    | none => rw [e1, e2] at hp; exact hp.elim
    | some ys =>
      rw [e1, e2] at hp
      dsimp only at hp
      by_cases hc : xs.length + ys.length ≤ cap
      · rw [if_pos hc] at hp
        obtain ⟨p, vs, rfl, h1, h2⟩ := r.ls hx e1
        obtain ⟨q, ws, rfl, h3, h4⟩ := r.ls hy e2
        exact op_cat pins s st H _ _ v' u' Q I rv ru ⟨p, q, vs, ws, rfl, rfl, h1, h3, by rw [← h2.length, ← h4.length]; exact cap_le hc, fun l hl => new_lv hp r (RepL.append h2 h4) hl⟩
      · rw [if_neg hc] at hp; exact hp.elim
theorem op_addD (hK : T.K = X.K) : OpR X (binaryOp .Add) (rD T oAdd) := by
  intro pins s st H v u v' u' Q I rv ru h
  obtain ⟨E, μ, σ, x, y, r, hx, hy, hp⟩ := h
  cases x with
  | int i =>
    cases y with
    | int j => exact op_add pins s st H v u v' u' Q I rv ru ⟨i, j, int_of hx, int_of hy, Post.here hp r (by rw [Rep])⟩
    | _ => exact addL_snd I rv ru r hx hy hp
  | str a =>
    cases y with
    | str b =>
      unfold oAdd at hp
      dsimp only at hp
      by_cases hc : a.length + b.length ≤ 100000
      · rw [if_pos hc] at hp
        exact op_add_str pins s st H v u v' u' Q I rv ru ⟨a, b, by simpa [Rep] using hx, by simpa [Rep] using hy, str_small hc, Post.here hp r (by rw [Rep])⟩
      · rw [if_neg hc] at hp; exact hp.elim
    | _ => exact addL_snd I rv ru r hx hy hp
  | tup xs =>
    cases y with
    | tup ys =>
      unfold oAdd at hp
      dsimp only at hp
      by_cases hc : xs.length + ys.length ≤ cap
      · rw [if_pos hc] at hp
        have hx0 := hx
        have hy0 := hy
        rw [Rep] at hx hy
        obtain ⟨p, vs, rfl, h1, h2⟩ := hx
        obtain ⟨q, ws, rfl, h3, h4⟩ := hy
        cases vs with
        | nil =>
          have e0 : xs = [] := by have := h2.length; simpa using this
          subst e0
          cases rv; cases ru
          obtain ⟨its, q1, t1, _⟩ := L2.Inv.tuple I (SqT.of (K := X.K) h1)
          obtain ⟨its2, q2, t2, _⟩ := L2.Inv.tuple I (SqT.of (K := X.K) h3)
          cases q1
          exact cat_tup0 t1 t2 ⟨.ref q, H, I, rfl, Post.here hp r (by simpa using hy0)⟩
        | cons v0 vr =>
          refine op_catT pins s st H _ _ v' u' Q I rv ru ⟨p, q, _, ws, rfl, rfl, SqT.of h1, SqT.of h3, by simp, ?_, fun e => ?_, fun e l hl => ?_⟩
          · rw [← h2.length, ← h4.length]; exact cap_le hc
          · subst e
            have e0 : ys = [] := by have := h4.length; simpa using this
            subst e0
            exact Post.here hp r (by simpa using hx0)
          · exact new_tup hp r (RepL.append h2 h4) hl
      · rw [if_neg hc] at hp; exact hp.elim
    | _ => exact addL_snd I rv ru r hx hy hp
  | _ => exact addL_snd I rv ru r hx hy hp

/-! ### a op b op c -/
def chain2 (o' : D → D → M D) (c : M D) (y : D) : D → M D := testK (ifK (bnd c (o' y)) (ret (.bl false)))
def chainB (o o' : D → D → M D) (c : M D) (x y : D) : M D := bnd (o x y) (chain2 o' c y)
def chain1 (o o' : D → D → M D) (b c : M D) (x : D) : M D := bnd b (chainB o o' c x)
def eChain (o o' : D → D → M D) (a b c : Ev → M D) : Ev → M D := fun ρ => bnd (a ρ) (chain1 o o' (b ρ) (c ρ))
theorem fe_chain {op op' : CmpOp} {r r' : R2} {o o' : D → D → M D} (ho : OpR X (compareOp op) r) (hs : SndOp T r o) (ho' : OpR X (compareOp op') r') (hs' : SndOp T r' o') (ha : FE T X a fa) (hb : FE T X b fb) (hc : FE T X c fc)
    (hm : lastMarks [op, op'] [b, c] = false := by with_unfolding_all rfl) : FE T X (.Compare a [op, op'] [b, c] pos) (eChain o o' fa fb fc) := by
  intro pins s st H Q I h
  refine pe_chain ho ho' ha hb hc hm pins s st H Q I ?_
  obtain ⟨μ, ρ, σ, hE, hr, hp⟩ := h
  refine ⟨μ, ρ, σ, hE, hr, hp.bind fun x σ1 μ1 v H1 _ e1 r1 q1 p1 => ⟨μ1, ρ, σ1, hE.mono e1, r1, p1.bind fun y σ2 μ2 w H2 _ e2 r2 q2 p2 => ?_⟩⟩
  refine hs _ μ2 H2 σ2 x y v w _ r2 (Rep.mono e2 _ _ q1) q2 (p2.bind fun z σ3 μ3 u H3 _ e3 r3 q3 p3 => ?_)
  obtain ⟨k, rfl, ev, p4⟩ := tst_bl q3 p3
  refine ⟨k, ev, ?_⟩
  cases k with
  | true =>
    unfold ifK at p4; rw [if_pos rfl] at p4 ⊢
    exact ⟨μ3, ρ, σ3, ((hE.mono e1).mono e2).mono e3, r3, p4.bind fun z σ5 μ5 u5 H5 _ e5 r5 q5 p5 => hs' _ μ5 H5 σ5 y z w u5 Q r5 (Rep.mono e5 _ _ (Rep.mono e3 _ _ q2)) q5 p5⟩
  | false => unfold ifK at p4; rw [if_neg Bool.false_ne_true] at p4 ⊢; exact Post.here p4 r3 (by rw [Rep])
theorem hu9 {k : Nat} {A : Around} (hr : Room k A) : A.units + 9 < cLine := by have := hr.un; omega
end
end L4

namespace L4
open PySem PySem.Spec PyProof.Rows L2

/-! ### the text's defs -/
def HasFn (K : PySem.W.Frag) (mg : Str → Option Value) (x : Str) (st : Stmt) (ps : List Str) : Prop :=
  ∃ f fd, mg x = some (.ref f) ∧ Fun K x x st f fd ∧ ∀ us : List Value, us.length = ps.length → bindArgs fd ⟨us, []⟩ = pure (ps.zip us)
def OkF (T : Tb) (P : Program) (w : World) (mg : Str → Option Value) (base : Heap) (k : Nat) (x : Str) (ps : List Str) (fn : List D → M D) : Prop :=
  ∃ f fd, mg x = some (.ref f) ∧ PySem.W.keepIn T.K (.ref f) = true ∧ (∀ us : List Value, us.length = ps.length → bindArgs fd ⟨us, []⟩ = pure (ps.zip us)) ∧ FnOk P w T.K mg base (CXE P w) k f fd ps (spF T ps.length fn)
section
variable {T : Tb} {X : Cx}
theorem fe_callO {k : Nat} {ps : List Str} {fn : List D → M D} {x : Str} {p pos : Pos} {e : Expr} {es : List Expr} {fs : Ev → M (List D)} (h : OkF T X.prog X.w X.mg X.base k x ps fn) (hK : T.K = X.K) (hr : Room k X.A) (hg : Gl X x)
    (ha : FA T X (e :: es) fs) (hdb : (x == ("__debug__" : Str)) = false := by decide) (he : starEach (e :: es) X.env = (false, eval e X.env) :: starEach es X.env := by rfl) (hpl : (backTo pos (starEach es X.env)).any (·.1) = false := by rfl) :
    FE T X (.Call (.Name x p) (e :: es) [] pos) (eFn ps.length fn [] fs) := by
  obtain ⟨f, fd, hm, hk, hb, hF⟩ := h
  rw [hK] at hk hF
  exact fe_call (dds := []) (dvs := []) hF hr hg hm hk (.all hb) .nil (fun _ _ => RepL.nil) ha hdb he hpl
variable {P : Program} {w : World} {K : PySem.W.Frag} {mg : Str → Option Value} {base : Heap} {ca : Nat → Addr}
theorem ok_of {k : Nat} {x : Str} {st : Stmt} {ps N : List Str} {g : Ev → M Fl} (h : HasFn K mg x st ps) (S : FnScope N ps (defScope st))
    (hb : ∀ (f : Addr) (cdv : Value) (A : Around) (outer : List Env) (s : Shared) (H : Hp) (E : XK), Room k (A.deeper (envOfC x (defScope st) s.heap.objs.size f cdv)) → FSs ⟨K, ca⟩ (cxOf (CXE P w) P w K mg base N x (defScope st) f cdv A outer s H E) (defBody st) g) :
    OkF ⟨K, ca⟩ P w mg base (k + 1) x ps (run N.length g) := by
  obtain ⟨f, fd, hm, F, hbd⟩ := h
  obtain ⟨oc, od, kV, doc, pm, an, cdv, ct, osl, rfl, lk, hcd⟩ := F.ex
  exact ⟨f, _, hm, F.kp, hbd, fok lk hcd S (hb f cdv)⟩
theorem OkF.frz {k : Nat} {x : Str} {ps : List Str} {fn : List D → M D} (h : OkF T P w mg base k x ps fn) : OkF T P w mg base k x ps (fun ds => L4.frz (fn ds)) := by
  obtain ⟨f, fd, h1, h2, h3, h4⟩ := h
  exact ⟨f, fd, h1, h2, h3, fok_frz h4⟩
theorem mkF {h : Heap} {x : Str} {st : Stmt} {ps : List Str} {f : Addr} {oc : Value} {od an : Option Addr} {osl : Array (Option Value)} {kV doc pm cdv ct : Value} (X : K.In h) (G : h.Ns mainGlobals mg)
    (hb : ∀ (kV doc pm : Value) (an : Option Addr) (cdv ct : Value) (us : List Value), us.length = ps.length → bindArgs (PySem.W.fnOf x x (defArgs st) (defBody st) (defScope st) .none kV doc pm an cdv ct) ⟨us, []⟩ = pure (ps.zip us))
    (a : PySem.W.nsIn K mainGlobals x = some (some (.ref f))) (l : K.lookup f = some ⟨oc, od, .func (PySem.W.fnOf x x (defArgs st) (defBody st) (defScope st) .none kV doc pm an cdv ct), osl⟩)
    (c : PySem.W.codeIn K cdv x = true) (k : PySem.W.keepIn K (.ref f) = true) : HasFn K mg x st ps :=
  ⟨f, _, PySem.W.mg_of X G a, fun_mk l c k, hb kV doc pm an cdv ct⟩
theorem mkI {h : Heap} {x : Str} {i : Int} {t : Tok} (X : K.In h) (G : h.Ns mainGlobals mg) (a : PySem.W.nsIn K mainGlobals x = some (some (.int i t))) : ∃ t, mg x = some (.int i t) := ⟨t, PySem.W.mg_of X G a⟩
end
/-- the law: from its data's answer -/
theorem scr_of {K : PySem.W.Frag} {H : Hp} {a : Addr} {ns : List Int} (hO : Only H) (h : SqL K H a (ns.map V.int)) : Scr K H a ns := by
  rcases h with (h | ⟨o, h⟩) | h
  · rcases hO a with z | ⟨o, xs, z⟩
    · rw [z] at h; cases h
    · rw [z] at h; cases h
  · exact .inl ⟨o, h⟩
  · exact .inr h
/-- the law's promise, whatever the table -/
def sp0 (K : PySem.W.Frag) : Sp := fun vs H Q E => ∃ (a : Addr) (ns : List Int), vs = [.ref a] ∧ ns.length ≤ 63 ∧ Only H ∧ SqL K H a (ns.map V.int) ∧ ∀ v H', v = .bl true → Q v H'
theorem sp0_of {K : PySem.W.Frag} {ca : Nat → Addr} {fn : List D → M D} (tr : ∀ ns : List Int, ns.length ≤ 63 → ∃ σ, fn [.scr ns] [] = .ok (.bl true) σ) {vs : List V} {H : Hp} {Q : VK} {E : XK} (h : sp0 K vs H Q E) : spF ⟨K, ca⟩ 1 fn vs H Q E := by
  obtain ⟨a, ns, rfl, hl, hO, hS, hq⟩ := h
  obtain ⟨σ, e⟩ := tr ns hl
  refine ⟨[], [], [.scr ns], RepL.cons (by rw [Rep]; exact ⟨a, rfl, scr_of hO hS⟩) RepL.nil, rfl, ⟨rfl, List.nodup_nil, fun n o q => by simp at q⟩, ?_⟩
  rw [e]
  intro μ' v H' _ _ r
  rw [Rep] at r
  exact hq v H' r
def OkL (T : Tb) (P : Program) (w : World) (mg : Str → Option Value) (k : Nat) (x : Str) (ps : List Str) (fn : List D → M D) : Prop :=
  ∃ f fd, mg x = some (.ref f) ∧ (∀ us : List Value, us.length = ps.length → bindArgs fd ⟨us, []⟩ = pure (ps.zip us)) ∧ ∀ base : Heap, FnOk P w T.K mg base (CXE P w) k f fd ps (spF T ps.length fn)
theorem ok_ofL {P : Program} {w : World} {K : PySem.W.Frag} {mg : Str → Option Value} {ca : Nat → Addr} {k : Nat} {x : Str} {st : Stmt} {ps N : List Str} {g : Ev → M Fl} (h : HasFn K mg x st ps) (S : FnScope N ps (defScope st))
    (hb : ∀ (base : Heap) (f : Addr) (cdv : Value) (A : Around) (outer : List Env) (s : Shared) (H : Hp) (E : XK), Room k (A.deeper (envOfC x (defScope st) s.heap.objs.size f cdv)) → FSs ⟨K, ca⟩ (cxOf (CXE P w) P w K mg base N x (defScope st) f cdv A outer s H E) (defBody st) g) :
    OkL ⟨K, ca⟩ P w mg (k + 1) x ps (run N.length g) := by
  obtain ⟨f, fd, hm, F, hbd⟩ := h
  obtain ⟨oc, od, kV, doc, pm, an, cdv, ct, osl, rfl, lk, hcd⟩ := F.ex
  exact ⟨f, _, hm, hbd, fun base => fok lk hcd S (hb base f cdv)⟩
theorem walkL {l : PySem.W.OpenLaw} {q : Program} {loose : List Str} {XP : (Str → Option Value) → Heap → Prop} {YP : World → Heap → Prop} {d : DefRec} {K : Params → PySem.W.Frag} {k : Nat} {x : Str} {fn : List D → M D}
    (hn : l.most = some 63) (hdf : d.params.defaults = []) (hr : Room k callerA) (hY : ∀ (w : World) (h : Heap), YP w h → (K w.params).In h)
    (F : ∀ (w : World) (mg : Str → Option Value) (h : Heap), (K w.params).In h → h.Ns mainGlobals mg → ∃ ca, OkL ⟨K w.params, ca⟩ l.prog w mg k d.name [x] fn)
    (tr : ∀ ns : List Int, ns.length ≤ 63 → ∃ σ, fn [.scr ns] [] = .ok (.bl true) σ) :
    PySem.W.WalkO q loose XP YP l.row.toRowW d [] (fun f vs => PySem.call f vs) := by
  refine L2.walk_of (n := 63) (k := k) (x := x) (CX := fun w => CXE l.prog w) (sp := fun w => sp0 (K w.params)) hn (by decide) hdf hr hY (fun w mg fa h KX G hmg => ?_) (fun w H a ns hl hO hS => ⟨a, ns, rfl, hl, hO, hS, fun _ _ e => e⟩) (fun w H s e s' z => ?_)
  · obtain ⟨ca, f0, fd0, g1, g3, g4⟩ := F w mg h KX G
    rw [hmg] at g1; cases g1
    exact ⟨fd0, fun s u => .of_eq (g3 [u] rfl), fun base hb hg => (g4 base).imp fun vs H Q E z => sp0_of tr z⟩
  · obtain ⟨cls, fd, H', _, z⟩ := z
    exact z
end L4

namespace L4
open PySem PySem.Spec PyProof.Rows L2

/-! ### raise -/
theorem exc_obj {K : PySem.W.Frag} {h : Heap} {C : Addr} {bmB : List Value} {newId : String} (KX : K.In h) (hq : PySem.W.excIn K C bmB newId = true) :
    ∃ bm N nm qn bs hdct sn sub ab col dd k0 k1 k2 k3 k5 mN, h.get? C = some (excClassObj nm qn C N bs bm hdct sn sub ab col dd k0 k1 k2 k3 k5 newId) ∧ h.Ns N mN ∧ mN "__init__" = none ∧ OwnTail h bmB bm := by
  unfold PySem.W.excIn at hq
  split at hq
  · rename_i dd data sl lk
    split at hq
    · rename_i C2 bm k0 k1 k2 k3 nid k5 emro esl
      have hq1 : ((((C2 = C ∧ nid = newId) ∧ data.hasDel = false) ∧ PySem.W.tailIn K bmB bm = true) ∧ PySem.W.nsOkIn K data.ns = true) ∧ PySem.W.nsIn K data.ns "__init__" = some none := by
        simpa [Bool.and_eq_true, Bool.not_eq_true'] using hq
      obtain ⟨⟨⟨⟨⟨c1, c2⟩, c3⟩, c4⟩, c5⟩, c6⟩ := hq1
      subst c1; subst c2
      obtain ⟨nm, bs, mro, ns, qn, hd, sn, sub, ab, col, del⟩ := data
      cases emro; cases c3
      obtain ⟨l⟩ := sl
      cases esl
      exact ⟨bm, ns, nm, qn, bs, hd, sn, sub, ab, col, dd, k0, k1, k2, k3, k5, _, KX _ _ lk, .of_isNs (PySem.W.isNs_of_in KX c5), PySem.W.nsMap_none_of_in KX c5 c6, PySem.W.tail_of_in KX c4⟩
    · cases hq
  · cases hq
def raiseK (c : Nat) (ρ : Ev) (ds : List D) : M Fl := if ds.length ≤ cap then ret (.xc ρ ⟨c⟩) else bad
def sRaise (c : Nat) (fs : Ev → M (List D)) : Ev → M Fl := fun ρ => xs ρ (fs ρ) (raiseK c ρ)
section
variable {T : Tb} {X : Cx}
theorem fs_raise (c : Nat) {x : Str} {B newId initId : String} {bmB : List Value} {np cpos pos : Pos} {e : Expr} {es : List Expr} {fs : Ev → M (List D)} (FB : ExcBaseFacts B newId initId bmB) (hK : T.K = X.K) (hq : PySem.W.excIn T.K (T.ca c) bmB newId = true) (hm : X.mg x = some (.ref (T.ca c)))
    (hg : Gl X x) (hc : X.calm = true) (ha : FA T X (e :: es) fs) (hdb : (x == ("__debug__" : Str)) = false := by decide) (he : starEach (e :: es) X.env = (false, eval e X.env) :: starEach es X.env := by rfl)
    (hpl : (backTo cpos (starEach es X.env)).any (·.1) = false := by rfl) (hfd : fdN c = none := by rfl) : FS T X (.Raise (some (.Call (.Name x np) (e :: es) [] cpos)) none pos) (sRaise c fs) := by
  intro pins s st H D I hw
  obtain ⟨μ, ρ, σ, hE, hr, hp⟩ := hw
  rw [hK] at hq
  obtain ⟨bm, N, nm, qn, bs, hdct, sn, sub, ab, col, dd, k0, k1, k2, k3, k5, mN, hC, hN, hni, tl⟩ := exc_obj I.ok.mod.kin hq
  have hpl' : (backTo cpos (starEach (e :: es) X.env)).any (·.1) = false := by
    rw [he]; show (false || (backTo cpos (starEach es X.env)).any (·.1)) = false; rw [hpl]; rfl
  refine wpAny_Raise_call_subT (nm := nm) (q := qn) (N := N) (bs := bs) (bm := bm) (hdct := hdct) (sn := sn) (sub := sub) (ab := ab) (col := col) (dd := dd) (k0 := k0) (k1 := k1) (k2 := k2) (k3 := k3) (k5 := k5) FB (mN := mN) (tl.hasType FB.hasBase) (I.ok.hd hc) hpl' hni (ld_glob I hg hm ⟨rfl, ?_⟩ hdb)
  have step := ha cpos pins s st H (fun vs H1 => vs.length ≤ cap ∧ Thr X st (T.cv ⟨c⟩) none H1) I ⟨μ, ρ, σ, hE, hr, hp.xs hE fun ds σ1 μ1 vs H1 _ e1 r1 q1 p1 => by
    unfold raiseK at p1
    by_cases hl : ds.length ≤ cap
    · rw [if_pos hl] at p1
      exact ⟨by rw [← q1.length]; exact hl, Post.here (g := Gl2.xc st (T.cv ⟨c⟩) none) p1 r1 ⟨hE.mono e1, rfl, hfd.symm⟩⟩
    · rw [if_neg hl] at p1; exact p1.elim⟩
  rw [he] at step ⊢
  refine Calls.evalArgs_plain (thn step fun us s1 ⟨vs, H1, I1, r, hl, thr⟩ => ?_)
  exact ⟨rfl, by rw [← r.length]; exact cap_le hl, I1.bk _ _ hC, hN.keeps I1.bk, tl.keeps I1.bk, fun h' ea hx => thr.made I1 hx⟩
end

/-! ### try -/
structure Hd where
  t : Nat → Option Bool
  nm : Option Nat
  g : Ev → M Fl
def unbK (i : Nat) : Fl → M Fl
  | .nx ρ => ret (.nx (ρ.set i none))
  | .rt d => ret (.rt d)
  | .bk ρ => ret (.bk (ρ.set i none))
  | .ct ρ => ret (.ct (ρ.set i none))
  | .xc _ _ => bad
def noF : Fl → M Fl
  | .nx ρ => ret (.nx ρ)
  | .rt d => ret (.rt d)
  | .bk ρ => ret (.bk ρ)
  | .ct ρ => ret (.ct ρ)
  | .xc _ _ => bad
def hit (h : Hd) (ρ : Ev) (x : Xn) : M Fl := match h.nm with
  | none => bnd (h.g ρ) noF
  | some i => bnd (h.g (ρ.set i (some (.exn x.cls)))) (unbK i)
def handle (ρ : Ev) (x : Xn) : List Hd → M Fl
  | [] => bad
  | h :: r => match h.t x.cls with
    | some true => hit h ρ x
    | some false => handle ρ x r
    | none => bad
def tryK (hs : List Hd) : Fl → M Fl
  | .xc ρ x => handle ρ x hs
  | .nx ρ => ret (.nx ρ)
  | .rt d => ret (.rt d)
  | .bk ρ => ret (.bk ρ)
  | .ct ρ => ret (.ct ρ)
def sTry (g : Ev → M Fl) (hs : List Hd) : Ev → M Fl := fun ρ => bnd (g ρ) (tryK hs)

/-- within an except suite -/
abbrev Cx.inH (X : Cx) (e : Value) : Cx := { X with A := X.A.mark (some e), calm := false, xe := fun _ _ => False }
/-- within a try's body -/
abbrev Cx.inT (X : Cx) (pins : List (Addr × Obj)) (xe : Value → Shared → Prop) : Cx := { X with xe := xe, pn := X.pn ++ pins }
section
variable {T : Tb} {X : Cx} {pins : List (Addr × Obj)} {st : St} {H : Hp} {s : Shared} {e : Value} {xe : Value → Shared → Prop}
theorem inv_inT (I : Inv X pins st H s) : Inv (Cx.inT X pins xe) [] st H s :=
  ⟨⟨I.ok.mod, I.ok.kind, I.ok.glob, I.ok.blt, I.ok.above, I.ok.inj, I.ok.has, I.ok.cab, I.ok.hd, I.ok.frames, I.ok.stk, I.ok.exf, I.ok.bs, I.ok.bsz, I.ok.noex, I.ok.exfs, I.ok.funs, I.ok.frf⟩, I.os, I.bare, I.base, I.loc, I.cell, I.free, I.freeC, fun p hp => I.pin p (by simpa using hp), I.hok, I.len⟩
theorem inv_outT {p1 : List (Addr × Obj)} (I : Inv (Cx.inT X pins xe) p1 st H s) : Inv X pins st H s :=
  ⟨⟨I.ok.mod, I.ok.kind, I.ok.glob, I.ok.blt, I.ok.above, I.ok.inj, I.ok.has, I.ok.cab, I.ok.hd, I.ok.frames, I.ok.stk, I.ok.exf, I.ok.bs, I.ok.bsz, I.ok.noex, I.ok.exfs, I.ok.funs, I.ok.frf⟩, I.os, I.bare, I.base, I.loc, I.cell, I.free, I.freeC, fun p hp => I.pin p (List.mem_append_left _ hp), I.hok, I.len⟩
theorem inv_inH (I : Inv X pins st H s) : Inv (Cx.inH X e) pins st H s :=
  ⟨⟨I.ok.mod, I.ok.kind, I.ok.glob, I.ok.blt, I.ok.above, I.ok.inj, I.ok.has, I.ok.cab, fun z => (by cases z), I.ok.frames, I.ok.stk, I.ok.exf, I.ok.bs, I.ok.bsz, I.ok.noex, I.ok.exfs, I.ok.funs, I.ok.frf⟩, I.os, I.bare, I.base, I.loc, I.cell, I.free, I.freeC, I.pin, I.hok, I.len⟩
theorem inv_outH (ok : X.Ok) (I : Inv (Cx.inH X e) pins st H s) : Inv X pins st H s :=
  ⟨ok, I.os, I.bare, I.base, I.loc, I.cell, I.free, I.freeC, I.pin, I.hok, I.len⟩
theorem sp_outT {D : Ends} {f : Flow} {s' : Shared} (h : SP (Cx.inT X pins xe) [] D f s') : SP X pins D f s' := by
  cases f with
  | next => obtain ⟨σ', H', I, q⟩ := h; exact ⟨σ', H', inv_outT I, q⟩
  | brk => obtain ⟨σ', H', I, q⟩ := h; exact ⟨σ', H', inv_outT I, q⟩
  | cont => obtain ⟨σ', H', I, q⟩ := h; exact ⟨σ', H', inv_outT I, q⟩
  | ret u => obtain ⟨v, σ', H', I, r, q⟩ := h; exact ⟨v, σ', H', inv_outT I, r, q⟩
theorem sp_outH (ok : X.Ok) {D : Ends} {f : Flow} {s' : Shared} (h : SP (Cx.inH X e) pins D f s') : SP X pins D f s' := by
  cases f with
  | next => obtain ⟨σ', H', I, q⟩ := h; exact ⟨σ', H', inv_outH ok I, q⟩
  | brk => obtain ⟨σ', H', I, q⟩ := h; exact ⟨σ', H', inv_outH ok I, q⟩
  | cont => obtain ⟨σ', H', I, q⟩ := h; exact ⟨σ', H', inv_outH ok I, q⟩
  | ret u => obtain ⟨v, σ', H', I, r, q⟩ := h; exact ⟨v, σ', H', inv_outH ok I, r, q⟩
end
/-- an exception that has come to this frame -/
def Lnd (X : Cx) (pins : List (Addr × Obj)) (st : St) (H : Hp) (s : Shared) (ea : Addr) (cls : Value) (fd : Option Nat) : Prop := ∃ H0 s0, Inv X pins st H0 s0 ∧ Fly X.prog X.w X.stack H0 s0 cls fd H (.ref ea) s
section
variable {T : Tb} {X : Cx} {pins : List (Addr × Obj)} {st : St} {H : Hp} {s : Shared} {ea : Addr} {cls : Value} {fd : Option Nat}
theorem Lnd.inv (L : Lnd X pins st H s ea cls fd) : Inv X pins st H s := by
  obtain ⟨H0, s0, I, F⟩ := L
  exact L2.Inv.call' (ch := []) I F.os F.un F.hok F.bare fun b z => absurd z (by simp)
theorem Lnd.next (L : Lnd X pins st H s ea cls fd) {M : Model} {A : Around} {E : Value → Shared → Prop} {Q : Unit → Shared → Prop} (h : ∀ s', Lnd X pins st H s' ea cls fd → Q () s') : wpAny M A (setFlight (.ref ea) none) Q E s := by
  obtain ⟨H0, s0, I, F⟩ := L
  obtain ⟨ea', a0, B, e, fl, hn, hnew, hT, hB, hA, hF⟩ := F.ex
  cases e
  refine lands_m fl fun h6 fl6 sl6 dk6 => h _ ?_
  obtain ⟨un, hok⟩ := fly_un F hB hT hA fl.1 fl6.1 sl6 (fly_frames I)
  exact ⟨H0, s0, I, ⟨ea, a0, B, rfl, fl6, hn, hnew, hT, hB, hA, hF.next dk6 (let ⟨o, e, _⟩ := fl6.there; ⟨o, e⟩)⟩, F.os, F.bare, un, hok⟩
/-- the exception's own object -/
theorem Lnd.obj (L : Lnd X pins st H s ea cls fd) : H ea = none ∧ (∃ o, s.heap.get? ea = some o ∧ o.cls = cls) ∧ ∃ s0 : Shared, s0.heap.get? ea = none ∧ ∃ H0, Inv X pins st H0 s0 := by
  obtain ⟨H0, s0, I, F⟩ := L
  obtain ⟨ea', a0, B, e, fl, hn, hnew, hT, hB, hA, hF⟩ := F.ex
  cases e
  exact ⟨hn, fl.there, s0, hnew, H0, I⟩
/-- what is new and known is tracked from here on -/
theorem track_at {H0 : Hp} {s0 : Shared} {a : Addr} {o : Obj} {φ : Heap → Prop} (I : Inv X pins st H s) (I0 : Inv X pins st H0 s0) (hnew : s0.heap.get? a = none) (hn : H a = none) (ho : s.heap.get? a = some o) (hφ : φ s.heap)
    (hs : ∀ h1 h2 : Heap, φ h1 → (∀ u, h1.get? a = some u → h2.get? a = some u) → φ h2) : Inv X pins st (upd H a (.ext φ)) s := by
  have ne : ∀ b u, s0.heap.get? b = some u → b ≠ a := fun b u e z => by rw [z, hnew] at e; cases e
  have nt : ∀ b u, H b = some u → b ≠ a := fun b u e z => by rw [z, hn] at e; cases e
  have n0 : ∀ b u, X.s₀.heap.get? b = some u → b ∉ X.ex → b ≠ a := fun b u e hx => by obtain ⟨u', e'⟩ := I0.base.there b u e hx; exact ne b u' e'
  refine ⟨I.ok, I.os, I.bare, ⟨I.base.keep, I.base.slot, fun b u e n hx => ?_, I.base.there, fun b xs e => ?_, fun b ob u e => ?_, fun b ps e => ?_⟩, I.loc, I.cell, ?_, fun x c e => ?_, fun p hp => ?_, fun b u e => ?_, I.len⟩
  · rw [upd_ne (n0 b u e hx)]; exact I.base.free b u e n hx
  · have q := I.base.tups b xs e; rw [upd_ne (nt b _ q)]; exact q
  · have q := I.base.frzs b ob u e; rw [upd_ne (nt b _ q)]; exact q
  · obtain ⟨more, q⟩ := I.base.tbls b ps e; exact ⟨more, by rw [upd_ne (nt b _ q)]; exact q⟩
  · obtain ⟨m, ⟨u, _, _, hu, _⟩, _⟩ := I0.loc
    rw [upd_ne (ne _ u hu)]; exact I.free
  · obtain ⟨v, u, hu, _⟩ := I0.cell x c e
    rw [upd_ne (ne _ u hu)]; exact I.freeC x c e
  · obtain ⟨p1, p2, p3⟩ := I.pin p hp
    refine ⟨p1, ?_, p3⟩
    rw [upd_ne (ne _ _ (I0.pin p hp).1)]; exact p2
  · by_cases hb : b = a
    · subst hb; rw [upd_same] at e; cases e
      exact ⟨hφ, ⟨o, ho⟩, hs⟩
    · rw [upd_ne hb] at e
      exact (I.hok b u e).stay (fun c v _ q => q) (fun c q => by rw [upd_ne (nt c _ q)]; exact q) fun c xs q => by rw [upd_ne (nt c _ q)]; exact q
theorem excD_stay {C a : Addr} {dd : Option Addr} : ∀ h1 h2 : Heap, ExcAtD C dd a h1 → (∀ u, h1.get? a = some u → h2.get? a = some u) → ExcAtD C dd a h2 := fun h1 h2 ⟨u, hu, q⟩ k => ⟨u, k u hu, q⟩
theorem pot_stay {dN : Addr} {n : Nat} : ∀ h1 h2 : Heap, PotAt dN n h1 → (∀ u, h1.get? dN = some u → h2.get? dN = some u) → PotAt dN n h2 := fun h1 h2 ⟨u, hu, q⟩ k => ⟨u, k u hu, q⟩
/-- it is tracked from here on, with its number -/
theorem Lnd.track (L : Lnd X pins st H s ea (.ref C) fd) : ∃ dd H1, Inv X pins st H1 s ∧ H1 ea = some (.ext (ExcAtD C dd ea)) ∧ (∀ n, fd = some n → ∃ dN, dd = some dN ∧ H dN = none ∧ H1 dN = some (.ext (PotAt dN n))) ∧ (∀ b u, H b = some u → H1 b = some u) ∧ ∀ b u, H1 b = some u → H b = some u ∨ H b = none := by
  have I := L.inv
  obtain ⟨H0, s0, I0, F⟩ := L
  obtain ⟨ea', a0, B, e, fl, hn, hnew, hT, hB, hA, hF⟩ := F.ex
  cases e
  obtain ⟨o, ho, hc⟩ := fl.there
  cases hfd : fd with
  | none =>
    have I1 := track_at (φ := ExcAtD C none ea) I I0 hnew hn ho ⟨o, ho, hc, fun _ z => by cases z⟩ excD_stay
    refine ⟨none, _, I1, upd_same, (fun n q => by cases q), fun b u e => ?_, fun b u e => ?_⟩
    · rw [upd_ne (fun z => by rw [z, hn] at e; cases e)]; exact e
    · by_cases hb : b = ea
      · rw [hb]; exact .inr hn
      · rw [upd_ne hb] at e; exact .inl e
  | some n =>
    obtain ⟨dN, oD, oe, q1, q2, q3, q4, q5, q6⟩ := hF n hfd
    have oe' : oe = o := by rw [ho] at q1; cases q1; rfl
    subst oe'
    have hdN := fl.1 dN oD q3
    have ned : dN ≠ ea := fun z => by
      have := fl.2.1
      rw [← z, q3] at this; cases this
    have I1 := track_at (φ := ExcAtD C (some dN) ea) I I0 hnew hn ho ⟨oe, ho, hc, fun _ z => by cases z; exact ⟨q2, fl.flds ho⟩⟩ excD_stay
    have I2 := track_at (φ := PotAt dN n) I1 I0 q6 (by rw [upd_ne ned]; exact q5) hdN ⟨oD, hdN, q4⟩ pot_stay
    refine ⟨some dN, _, I2, by rw [upd_ne (Ne.symm ned)]; exact upd_same, fun m q => ?_, fun b u e => ?_, fun b u e => ?_⟩
    · cases q; exact ⟨dN, rfl, q5, upd_same⟩
    · rw [upd_ne (fun z => by rw [z, q5] at e; cases e), upd_ne (fun z => by rw [z, hn] at e; cases e)]; exact e
    · by_cases hd : b = dN
      · rw [hd]; exact .inr q5
      · rw [upd_ne hd] at e
        by_cases hb : b = ea
        · rw [hb]; exact .inr hn
        · rw [upd_ne hb] at e; exact .inl e
/-- from an exception that has come here -/
theorem lnd_fly (I : Inv X pins st H s) (hs : X.stack = X.env :: X.outer) (hf : X.env.frame = some X.env.locals) {s' : Shared} {H' : Hp} {e : Value} (F : Fly X.prog X.w X.stack H s cls fd H' e s') {M : Model} {E : Value → Shared → Prop} {Q : Value → Shared → Prop}
    (h : ∀ ea s'', e = .ref ea → Lnd X pins st H' s'' ea cls fd → Q e s'') : wpAny M X.A (noteFrame e X.env) (fun _ s2 => wpAny M X.A (setFlight e none) (fun _ s3 => Q e s3) E s2) E s' := by
  obtain ⟨ea, a0, B, rfl, fl, hn, hnew, hT, hB, hA, hF⟩ := F.ex
  have fl' : FlyM B (X.env :: X.outer) ea cls a0 s'.heap := by rw [← hs]; exact fl
  refine looks_m (by rw [← hs]; exact I.ok.frames) hf fl' fun h4 held4 sm4 dk4 => ?_
  refine lands_m (held_m held4) fun h5 fl5 sm5 dk5 => h ea _ rfl ?_
  have fl5' : FlyM B X.stack ea cls a0 h5 := by rw [hs]; exact fl5
  obtain ⟨un, hok⟩ := fly_un F hB hT hA fl.1 fl5'.1 (sm4.trans sm5) (fly_frames I)
  exact ⟨H, s, I, ⟨ea, a0, B, rfl, fl5', hn, hnew, hT, hB, hA, hF.next (dk4.trans dk5) (let ⟨o, e, _⟩ := fl5'.there; ⟨o, e⟩)⟩, F.os, F.bare, un, hok⟩
end

/-! ### the handlers -/
/-- what the name of a class in a handler says -/
def NmCls (X : Cx) (x : Str) (cv : Value) : Prop := X.mg x = some cv ∨ (X.mg x = none ∧ bootBuiltins x = some cv ∧ x ≠ "__name__")
inductive FHs (T : Tb) (X : Cx) : List ExceptHandler → List Hd → Prop where
  | nil : FHs T X [] []
  | cons {x : Str} {np pos : Pos} {cv : Value} {b₀ : Stmt} {suite : List Stmt} {t : Nat → Option Bool} {g : Ev → M Fl} {r : List ExceptHandler} {hs : List Hd} (hg : Gl X x) (hd : (x == ("__debug__" : Str)) = false) (hm : NmCls X x cv) (ht : ∀ c b, t c = some b → PySem.W.exmOne X.K (.ref (T.ca c)) cv = some b)
      (hb : ∀ e, FSs T (Cx.inH X e) (b₀ :: suite) g) (hr : FHs T X r hs) : FHs T X (.ExceptHandler (some (.Name x np)) none (b₀ :: suite) pos :: r) (⟨t, none, g⟩ :: hs)
  | consAs {x n : Str} {i : Nat} {np pos : Pos} {cv : Value} {b₀ : Stmt} {suite : List Stmt} {t : Nat → Option Bool} {g : Ev → M Fl} {r : List ExceptHandler} {hs : List Hd} (hg : Gl X x) (hd : (x == ("__debug__" : Str)) = false) (hm : NmCls X x cv) (ht : ∀ c b, t c = some b → PySem.W.exmOne X.K (.ref (T.ca c)) cv = some b)
      (hN : X.N.Nodup) (hi : X.N[i]? = some n) (hl : X.env.scope.names.lookup n = some .local)
      (hb : ∀ e, FSs T (Cx.inH X e) (b₀ :: suite) g) (hr : FHs T X r hs) : FHs T X (.ExceptHandler (some (.Name x np)) (some n) (b₀ :: suite) pos :: r) (⟨t, some i, g⟩ :: hs)
section
variable {T : Tb} {X : Cx}
theorem ld_nm {pins : List (Addr × Obj)} {st : St} {H : Hp} {s : Shared} {x : Str} {cv : Value} {pos : Pos} {E : Value → Shared → Prop} {Q : Value → Shared → Prop} (I : Inv X pins st H s) (hg : Gl X x) (hd : (x == ("__debug__" : Str)) = false) (hm : NmCls X x cv) (h : Q cv s) : wpAny (model X.prog X.w) X.A (eval (.Name x pos) X.env) Q E s := by
  rcases hm with hm | ⟨hm, hv, hn⟩
  · exact ld_glob I hg hm h hd
  · exact ld_blt I hg hm hv h hn hd
theorem post_noF {e : Value} {μ : List Addr} {H : Hp} {o : Out Fl} {D : Ends} (hp : Post T EN (RFl T) μ H (o.bind noF) (EndQ X D)) : Post T EN (RFl T) μ H o (EndQ (Cx.inH X e) D) := by
  cases o with
  | bad => exact hp
  | ex x σ => exact hp
  | ok fl σ =>
    intro μ1 gl H1 e1 r1 q1
    cases fl with
    | nx ρ => cases gl with
      | nx st => exact hp μ1 (.nx st) H1 e1 r1 q1
      | _ => exact q1.elim
    | rt ρ => cases gl with
      | rt st => exact hp μ1 (.rt st) H1 e1 r1 q1
      | _ => exact q1.elim
    | bk ρ => cases gl with
      | bk st => exact hp μ1 (.bk st) H1 e1 r1 q1
      | _ => exact q1.elim
    | ct ρ => cases gl with
      | ct st => exact hp μ1 (.ct st) H1 e1 r1 q1
      | _ => exact q1.elim
    | xc ρ x => exact hp.elim
theorem erep_unset {μ : List Addr} {H : Hp} {ρ : Ev} {st : St} (h : ERep T μ H ρ st) (i : Nat) : ERep T μ H (ρ.set i none) (st.set i none) := by
  refine ⟨by simpa using h.1, fun j d q => ?_⟩
  rw [List.getElem?_set] at q
  by_cases hj : i = j
  · subst hj; rw [if_pos rfl] at q; split at q <;> cases q
  · rw [if_neg hj] at q
    obtain ⟨v, h1, h2⟩ := h.2 j d q
    exact ⟨v, by rw [List.getElem?_set, if_neg hj]; exact h1, h2⟩
theorem post_unb {e : Value} {μ : List Addr} {H : Hp} {o : Out Fl} {D : Ends} {i : Nat} (hp : Post T EN (RFl T) μ H (o.bind (unbK i)) (EndQ X D)) : Post T EN (RFl T) μ H o (EndQ (Cx.inH X e) ⟨fun st H => D.nx (st.set i none) H, D.rt, fun st H => D.bk (st.set i none) H, fun st H => D.ct (st.set i none) H⟩) := by
  cases o with
  | bad => exact hp
  | ex x σ => exact hp
  | ok fl σ =>
    intro μ1 gl H1 e1 r1 q1
    cases fl with
    | nx ρ => cases gl with
      | nx st => exact hp μ1 (.nx (st.set i none)) H1 e1 r1 (erep_unset q1 i)
      | _ => exact q1.elim
    | rt ρ => cases gl with
      | rt st => exact hp μ1 (.rt st) H1 e1 r1 q1
      | _ => exact q1.elim
    | bk ρ => cases gl with
      | bk st => exact hp μ1 (.bk (st.set i none)) H1 e1 r1 (erep_unset q1 i)
      | _ => exact q1.elim
    | ct ρ => cases gl with
      | ct st => exact hp μ1 (.ct (st.set i none)) H1 e1 r1 (erep_unset q1 i)
      | _ => exact q1.elim
    | xc ρ x => exact hp.elim
/-- a name goes out -/
theorem inv_unset {pins : List (Addr × Obj)} {st : St} {H : Hp} {s : Shared} {n : Str} {i t : Nat} {h' : Heap} {m : Str → Option Value} (I : Inv X pins st H s) (hN : X.N.Nodup) (hi : X.N[i]? = some n) (hl : X.env.scope.names.lookup n = some .local) (hn : s.heap.Ns X.env.locals m) {w : Option Value} (hn' : h'.Ns X.env.locals fun y => if y = n then w else m y) (hs : Heap.SameBut X.env.locals s.heap h') : Inv X pins (st.set i none) H { s with heap := h', toks := t } := by
  have neL : ∀ b o, X.s₀.heap.get? b = some o → b ≠ X.env.locals := fun b o e => Nat.ne_of_lt (Nat.lt_of_lt_of_le (Heap.lt_size e) I.ok.above)
  obtain ⟨m0, hm0, hloc⟩ := I.loc
  have em : m0 = m := by
    obtain ⟨o, es, ep, ho, hd, hk, hf⟩ := hm0
    obtain ⟨o', es', ep', ho', hd', hk', hf'⟩ := hn
    rw [ho] at ho'; cases ho'
    rw [hd] at hd'; cases hd'
    funext y
    rw [← hf y, ← hf' y]
  subst em
  refine ⟨I.ok, I.os, I.bare, ⟨fun b o e n hb hx => (hs.2 b (neL b o e)).trans (I.base.keep b o e n hb hx), fun b o e n hb hx => ?_, I.base.free, fun b o e hx => ?_, I.base.tups, I.base.frzs, I.base.tbls⟩, ⟨_, hn', fun j y v e1 e2 e3 => ?_⟩, fun y c e => ?_, I.free, I.freeC, fun p hp => ?_, hok_of I.hok fun b o u e q => ?_, by simpa using I.len⟩
  · obtain ⟨sl, q⟩ := I.base.slot b o e n hb hx
    exact ⟨sl, (hs.2 b (neL b o e)).trans q⟩
  · obtain ⟨o', q⟩ := I.base.there b o e hx
    exact ⟨o', (hs.2 b (neL b o e)).trans q⟩
  · rw [List.getElem?_set] at e2
    by_cases hj : i = j
    · subst hj; rw [if_pos rfl] at e2; split at e2 <;> cases e2
    · rw [if_neg hj] at e2
      obtain ⟨u, r, lk⟩ := hloc j y v e1 e2 e3
      refine ⟨u, r, ?_⟩
      have hy : y ≠ n := fun z => hj (nodup_ix hN hi (z ▸ e1))
      rcases lk with ⟨k, q⟩ | ⟨k, c, q, z⟩
      · exact .inl ⟨k, by show (if y = n then w else m0 y) = some u; rw [if_neg hy]; exact q⟩
      · exact .inr ⟨k, c, q, z.sameBut hs (I.cne y c q)⟩
  · obtain ⟨v, z⟩ := I.cell y c e
    exact ⟨v, z.sameBut hs (I.cne y c e)⟩
  · obtain ⟨q1, q2, q3, q4⟩ := I.pin p hp
    exact ⟨(hs.2 p.1 q3).trans q1, q2, q3, q4⟩
  · exact (hs.2 b fun z => by rw [z, I.free] at e; cases e).trans q
theorem by_handlers {D : Ends} {pins : List (Addr × Obj)} {st : St} {H : Hp} {ea : Addr} {x : Xn} {μ : List Addr} {ρ : Ev} {σ : Sto} {hds : List ExceptHandler} {hs : List Hd} (h : FHs T X hds hs) (hE : ERep T μ H ρ st) (hr : Rel T μ H σ) (hp : Post T EN (RFl T) μ H (handle ρ x hs σ) (EndQ X D)) :
    ∀ s, Lnd X pins st H s ea (T.cv x) (fdN x.cls) → wpAny (model X.prog X.w) X.A (handleBy (.ref ea) X.env hds) (SP X pins D) X.xe s := by
  induction h with
  | nil => exact hp.elim
  | @cons y np pos cv b₀ suite t g r hs hg hd hm ht hb hrest ih =>
    intro s L
    have I := L.inv
    obtain ⟨_, ⟨o, ho, hc⟩, _⟩ := L.obj
    refine wpAny_handleBy_cons (codeAny_handlers_test (ld_nm (X := Cx.inH X (.ref ea)) (inv_inH I) hg hd hm ?_)) (by intro q; cases q)
    unfold handle at hp
    dsimp only at hp
    cases et : t x.cls with
    | none => rw [et] at hp; exact hp.elim
    | some b =>
      rw [et] at hp
      have LT : PySem.W.Looks (model X.prog X.w) s.heap (typeOf (.ref ea)) (T.cv x) := by rw [← hc]; exact (PySem.W.Looks.ld ho).andThen .now
      refine (PySem.W.exm_one I.kIn LT (ht x.cls b et)).here ?_
      cases b with
      | false => exact ih hp s L
      | true =>
        refine codeAny_handlers_suite (L.next fun s' L' => ?_)
        exact wpAny_mono (hb (.ref ea) pins s' st H D (inv_inH L'.inv) ⟨μ, ρ, σ, hE, hr, post_noF hp⟩) (fun f s2 q => sp_outH I.ok q) fun _ _ z => z.elim
  | @consAs y n i np pos cv b₀ suite t g r hs hg hd hm ht hN hi hl hb hrest ih =>
    intro s L
    have I := L.inv
    obtain ⟨_, ⟨o, ho, hc⟩, _⟩ := L.obj
    refine wpAny_handleBy_cons (codeAny_handlers_test (ld_nm (X := Cx.inH X (.ref ea)) (inv_inH I) hg hd hm ?_)) (by intro q; cases q)
    unfold handle at hp
    dsimp only at hp
    cases et : t x.cls with
    | none => rw [et] at hp; exact hp.elim
    | some b =>
      rw [et] at hp
      have LT : PySem.W.Looks (model X.prog X.w) s.heap (typeOf (.ref ea)) (T.cv x) := by rw [← hc]; exact (PySem.W.Looks.ld ho).andThen .now
      refine (PySem.W.exm_one I.kIn LT (ht x.cls b et)).here ?_
      cases b with
      | false => exact ih hp s L
      | true =>
        refine codeAny_handlers_suite_as (L.next fun s' L' => ?_)
        have hn : H ea = none := L'.obj.1
        obtain ⟨dd, H1, I1, hea, hdd, up1, dn1⟩ := Lnd.track L'
        have oldN : ∀ b, b ∈ μ → ∃ u, H b = some u := fun b z => by obtain ⟨u, hu, _⟩ := hr.mem z; exact ⟨u, hu⟩
        have ex1 : Ext μ H μ H1 := ⟨⟨[], by simp⟩, fun p xs e => up1 _ _ e, fun p o u e => up1 _ _ e, fun p o e n => ⟨up1 _ _ e, n⟩⟩
        have out : ea ∉ μ := fun z => by obtain ⟨u, hu⟩ := oldN _ z; rw [hn] at hu; cases hu
        have rp : Rep T μ H1 (.exn x.cls) (.ref ea) := by
          rw [Rep]
          refine ⟨ea, dd, rfl, out, hea, fun n q => ?_⟩
          obtain ⟨dN, z1, z2, z3⟩ := hdd n q
          exact ⟨dN, z1, fun z => (by obtain ⟨u, hu⟩ := oldN _ z; rw [z2] at hu; cases hu), z3⟩
        refine store_ok (X := Cx.inH X (.ref ea)) (v := .ref ea) (inv_inH I1) hN hi (.inl hl) rfl (fun s2 I2 => ?_) (.inr hl)
        refine wpAny_mono (hb (.ref ea) pins s2 _ _ ⟨fun st H => D.nx (st.set i none) H, D.rt, fun st H => D.bk (st.set i none) H, fun st H => D.ct (st.set i none) H⟩ I2 ⟨μ, ρ.set i (some (.exn x.cls)), σ, (hE.mono ex1).set i rp, hr.keep ex1 (fun a ha => by obtain ⟨u, hu⟩ := oldN a ha; rw [up1 _ _ hu, hu]), post_unb (Post.mono ex1 hp)⟩) (fun f s3 q => ?_) fun _ _ z => z.elim
        have cls0 : (X.env.scope.kind == .class || (X.env.scope.kind == .module && X.env.locals != X.env.globals)) = false := by rw [I.ok.kind]; rfl
        have go : ∀ {st3 : St} {H3 : Hp}, Inv (Cx.inH X (.ref ea)) pins st3 H3 s3 → (∀ s4, Inv X pins (st3.set i none) H3 s4 → SP X pins D f s4) → wpAny (model X.prog X.w) X.A (do bindName X.env n .none; unbindBehindTheSuite X.env n pos) (fun _ s₃ => SP X pins D f s₃) X.xe s3 := fun {st3 H3} I3 k => by
          have J := inv_outH I.ok I3
          obtain ⟨m, hm3, _⟩ := id J.loc
          exact wpAny_nameGoes_keeps hl hm3 cls0 fun h4 v4 hn4 sb4 => k _ (inv_unset J hN hi hl hm3 hn4 sb4)
        cases f with
        | next => obtain ⟨st3, H3, I3, q3⟩ := q; exact go I3 fun s4 I4 => ⟨_, _, I4, q3⟩
        | brk => obtain ⟨st3, H3, I3, q3⟩ := q; exact go I3 fun s4 I4 => ⟨_, _, I4, q3⟩
        | cont => obtain ⟨st3, H3, I3, q3⟩ := q; exact go I3 fun s4 I4 => ⟨_, _, I4, q3⟩
        | ret u => obtain ⟨v, st3, H3, I3, r3, q3⟩ := q; exact go I3 fun s4 I4 => ⟨v, _, _, I4, r3, q3⟩
theorem fs_try {body : List Stmt} {h₀ : ExceptHandler} {hds : List ExceptHandler} {hs : List Hd} {g : Ev → M Fl} {pos : Pos} (hst : X.stack = X.env :: X.outer) (hf : X.env.frame = some X.env.locals)
    (hb : ∀ pins xe, PassesOwn (model X.prog X.w) X.A X.env xe → FSs T (Cx.inT X pins xe) body g) (hh : FHs T X (h₀ :: hds) hs) : FS T X (.Try body (h₀ :: hds) [] [] pos) (sTry g hs) := by
  intro pins s st H D I hw
  obtain ⟨μ, ρ, σ, hE, hr, hp⟩ := hw
  refine wpAny_Try_except ?_
  refine wpAny_mono (hb pins (fun e s₁ => wpAny (model X.prog X.w) X.A (noteFrame e X.env) (fun _ s₂ => wpAny (model X.prog X.w) X.A (setFlight e none) (fun _ s₃ => wpAny (model X.prog X.w) X.A (handleBy e X.env (h₀ :: hds)) (SP X pins D) X.xe s₃) X.xe s₂) X.xe s₁) PassesOwn.looking [] s st H D (inv_inT I)
    ⟨μ, ρ, σ, hE, hr, ?_⟩) (fun f s1 q => ?_) fun _ _ z => z
  · have hp' : Post T EN (RFl T) μ H ((g ρ σ).bind (tryK hs)) (EndQ X D) := hp
    cases eo : g ρ σ with
    | bad => rw [eo] at hp'; exact hp'
    | ex x σ1 => rw [eo] at hp'; exact hp'
    | ok fl σ1 =>
      rw [eo] at hp'
      intro μ1 gl H1 e1 r1 q1
      have p1 := hp'.mono e1
      cases fl with
      | nx ρ => cases gl with
        | nx st => exact p1 μ1 (.nx st) H1 (Ext.refl _ _) r1 q1
        | _ => exact q1.elim
      | rt ρ => cases gl with
        | rt st => exact p1 μ1 (.rt st) H1 (Ext.refl _ _) r1 q1
        | _ => exact q1.elim
      | bk ρ => cases gl with
        | bk st => exact p1 μ1 (.bk st) H1 (Ext.refl _ _) r1 q1
        | _ => exact q1.elim
      | ct ρ => cases gl with
        | ct st => exact p1 μ1 (.ct st) H1 (Ext.refl _ _) r1 q1
        | _ => exact q1.elim
      | xc ρ1 x => cases gl with
        | xc st1 cls fd =>
          obtain ⟨hE1, rfl, rfl⟩ := q1
          refine ⟨fun p0 H0 s0 e s' I0 F => ?_⟩
          exact lnd_fly (inv_outT I0) hst hf F (Q := fun e s₃ => wpAny (model X.prog X.w) X.A (handleBy e X.env (h₀ :: hds)) (SP X pins D) X.xe s₃) fun ea s'' ee L => by subst ee; exact by_handlers hh hE1 r1 p1 s'' L
        | _ => exact q1.elim
  · have q' := sp_outT q
    cases f with
    | next => exact wpAny_execs_nil q'
    | brk => exact q'
    | cont => exact q'
    | ret u => exact q'
end
end L4

namespace L4
open PySem PySem.Spec PyProof.Rows L2

/-! ### x = e, what e made being data -/
theorem fs_setF {T : Tb} {X : Cx} {stm : Stmt} {i : Nat} {f : Ev → M D} (h : FS T X stm (sSet i f)) : FS T X stm (sSet i (eFrz f)) := by
  intro pins s st H D I hw
  obtain ⟨μ, ρ, σ, hE, hr, hp⟩ := hw
  refine h pins s st H D I ⟨μ, ρ, σ, hE, hr, ?_⟩
  have hp' : Post T EN (RFl T) μ H (xs ρ (frz (f ρ)) (setK i ρ) σ) (EndQ X D) := hp
  show Post T EN (RFl T) μ H (xs ρ (f ρ) (setK i ρ) σ) (EndQ X D)
  unfold xs frz at hp'
  unfold xs
  cases e : f ρ σ with
  | bad => rw [e] at hp'; exact hp'
  | ex x σ1 =>
    rw [e] at hp'
    unfold frzO at hp'
    dsimp only at hp' ⊢
    by_cases ht : σ1.take σ.length = σ
    · rw [if_pos ht] at hp'
      intro μ1 gl H1 e1 r1 q1
      cases gl with
      | xc st1 c1 fd1 =>
        obtain ⟨r2, e2⟩ := Rel.down hr r1 e1 ht
        obtain ⟨qE, qc⟩ := q1
        refine hp' μ (.xc st1 c1 fd1) H1 e2 r2 ⟨⟨qE.1, fun j d ej => ?_⟩, qc⟩
        obtain ⟨v, h1, h2⟩ := qE.2 j d ej
        obtain ⟨v0, _, h4⟩ := hE.2 j d ej
        exact ⟨v, h1, Rep.down e1.pre d v0 v h4 h2⟩
      | _ => exact q1.elim
    · rw [if_neg ht] at hp'; exact hp'.elim
  | ok d σ1 =>
    rw [e] at hp'
    unfold frzO at hp'
    dsimp only at hp' ⊢
    by_cases ht : σ1.take σ.length = σ
    · rw [if_pos ht] at hp'
      cases ef : fz σ.length σ1 6 d with
      | none => rw [ef] at hp'; exact hp'.elim
      | some d' =>
        rw [ef] at hp'
        intro μ1 gl H1 e1 r1 q1
        cases gl with
        | nx st1 =>
          obtain ⟨r2, e2⟩ := Rel.down hr r1 e1 ht
          have q1' : ERep T μ1 H1 (ρ.set i (some d)) st1 := q1
          refine hp' μ (.nx st1) H1 e2 r2 ⟨by simpa using q1'.1, fun j x ej => ?_⟩
          rw [List.getElem?_set] at ej
          by_cases hj : i = j
          · subst hj
            rw [if_pos rfl] at ej
            split at ej
            · rename_i hl
              cases ej
              obtain ⟨v, h1, h2⟩ := q1'.2 i d (by rw [List.getElem?_set, if_pos rfl, if_pos hl])
              exact ⟨v, h1, fz_rep e1.pre r1 6 d d' v (by rw [hr.len]; exact ef) h2⟩
            · cases ej
          · rw [if_neg hj] at ej
            obtain ⟨v, h1, h2⟩ := q1'.2 j x (by rw [List.getElem?_set, if_neg hj]; exact ej)
            obtain ⟨v0, _, h4⟩ := hE.2 j x ej
            exact ⟨v, h1, Rep.down e1.pre x v0 v h4 h2⟩
        | _ => exact q1.elim
    · rw [if_neg ht] at hp'; exact hp'.elim

/-! ### all, any, sum -/
def blsOf : List D → Option (List Bool)
  | [] => some []
  | .bl b :: r => (blsOf r).map (b :: ·)
  | _ :: _ => none
def intsOf : List D → Option (List Int)
  | [] => some []
  | .int b :: r => (intsOf r).map (b :: ·)
  | _ :: _ => none
theorem bls_rep {T : Tb} {μ : List Addr} {H : Hp} : ∀ {ds : List D} {vs : List V} {bs : List Bool}, RepL T μ H ds vs → blsOf ds = some bs → vs = bs.map V.bl
  | [], vs, bs, r, h => by cases h; rw [RepL] at r; exact r
  | d :: ds, vs, bs, r, h => by
    rw [RepL] at r
    obtain ⟨v, w, rfl, h1, h2⟩ := r
    cases d with
    | bl b =>
      obtain ⟨cs, e1, e2⟩ := Option.map_eq_some_iff.mp h
      subst e2
      rw [Rep] at h1; subst h1
      rw [bls_rep h2 e1]; rfl
    | _ => cases h
theorem ints_rep {T : Tb} {μ : List Addr} {H : Hp} : ∀ {ds : List D} {vs : List V} {bs : List Int}, RepL T μ H ds vs → intsOf ds = some bs → vs = bs.map V.int
  | [], vs, bs, r, h => by cases h; rw [RepL] at r; exact r
  | d :: ds, vs, bs, r, h => by
    rw [RepL] at r
    obtain ⟨v, w, rfl, h1, h2⟩ := r
    cases d with
    | int b =>
      obtain ⟨cs, e1, e2⟩ := Option.map_eq_some_iff.mp h
      subst e2
      rw [Rep] at h1; subst h1
      rw [ints_rep h2 e1]; rfl
    | _ => cases h
def oAll (xs : List D) : M D := fun σ => match xs with
  | [x] => (match (seqOf σ x).bind blsOf with
    | some bs => .ok (.bl (bs.all id)) σ
    | none => .bad)
  | _ => .bad
def oSum (xs : List D) : M D := fun σ => match xs with
  | [x] => (match (seqOf σ x).bind intsOf with
    | some bs => .ok (.int bs.sum) σ
    | none => .bad)
  | _ => .bad
section
variable {T : Tb} {X : Cx}
def rAllB (K : PySem.W.Frag) (g : List Bool → Bool) : List V → Hp → VK → Prop := fun xs H Q => ∃ p bs, xs = [.ref p] ∧ (SqL K H p (bs.map V.bl) ∨ SqT K H p (bs.map V.bl)) ∧ Q (.bl (g bs)) H
def rSumI (K : PySem.W.Frag) : List V → Hp → VK → Prop := fun xs H Q => ∃ (p : Addr) (bs : List Int), xs = [.ref p] ∧ (SqL K H p (bs.map V.int) ∨ SqT K H p (bs.map V.int)) ∧ Q (.int bs.sum) H
theorem vals_bl : ∀ {bs : List Bool} {us : List Value}, Vals (bs.map V.bl) us → us = bs.map Value.bool
  | [], us, h => by cases h; rfl
  | b :: bs, us, h => by
    cases h with
    | cons r t => cases r; rw [vals_bl t]; rfl
theorem range_at {α : Type} (g : α → Bool) (d : α) : ∀ (bs : List α), (List.range bs.length).all (fun i => g (bs.getD i d)) = bs.all g
  | [] => rfl
  | b :: bs => by
    rw [List.length_cons, List.range_succ_eq_map, List.all_cons, List.all_map, List.all_cons]
    congr 1
    rw [← range_at g d bs]
    congr 1
theorem truth_bl {prog : Program} {w : World} {A : Around} (bs : List Bool) : TruthOf prog w A (fun i v => (bs.map Value.bool).toArray[i]? = some v) (fun i => bs.getD i false) := by
  intro i v s Q E hP hQ
  simp only [List.getElem?_toArray, List.getElem?_map] at hP
  cases e : bs[i]? with
  | none => rw [e] at hP; cases hP
  | some b =>
    rw [e] at hP; cases hP
    have hQ' : Q (bs.getD i false) s := hQ
    rw [List.getD_eq_getElem?_getD, e] at hQ'
    exact wpAny_truthy_bool hQ'
theorem kept_new {s : Shared} {o : Obj} {h' : Heap} (k : ∀ b u, b ∉ [s.heap.objs.size] → (s.heap.push o).get? b = some u → h'.get? b = some u) : ∀ b u, s.heap.get? b = some u → h'.get? b = some u := fun b u e =>
  k b u (fun z => absurd (Heap.lt_size e) (by rw [List.mem_singleton.mp z]; exact Nat.lt_irrefl _)) (Heap.get?_push_of_some _ e)
/-- a list or a tuple walked by a built-in -/
theorem walk_seq {pins : List (Addr × Obj)} {s : Shared} {st : St} {H : Hp} {p : Addr} {vs : List V} {E : Value → Shared → Prop} {Q : Value → Shared → Prop} (hh : X.A.handled = none) (I : Inv X pins st H s) (hq : SqL X.K H p vs ∨ SqT X.K H p vs)
    (h : ∀ (its : List Value) (It : Addr) (fp : List Addr) (St : Nat → Heap → Prop) (s2 : Shared), Vals vs its → Walks X.prog X.w X.A.in1 It fp [It] its.toArray.size (fun i v => its.toArray[i]? = some v) St → St 0 s2.heap → (∀ b ∈ fp, b < s2.heap.objs.size) →
      (∀ h' tk, (∀ b o, b ∉ [It] → s2.heap.get? b = some o → h'.get? b = some o) → Inv X pins st H { s2 with heap := h', toks := tk }) → Q (.ref It) s2) : wpAny (model X.prog X.w) X.A.in1 (pyIter (.ref p)) Q E s := by
  rcases hq with hq | hq
  · obtain ⟨its, rv, pl, hz⟩ := I.list hq
    have hlt : p < s.heap.objs.size := by obtain ⟨_, e, _⟩ := pl.isList; exact Heap.lt_size e
    refine wpAny_pyIter_list pl.isList (h its s.heap.objs.size [s.heap.objs.size, p] _ _ rv (Walks.list (A := X.A.in1) hh _ p (Nat.ne_of_lt hlt) its.toArray) ⟨⟨_, Heap.get?_push_size _ rfl, rfl, rfl⟩, pl.isList.push _⟩ (fun b hb => ?_) (fun h' tk hk => I.kept (kept_new hk)))
    show b < (s.heap.push _).objs.size
    rw [Heap.size_push]
    simp only [List.mem_cons, List.not_mem_nil, or_false] at hb
    rcases hb with rfl | rfl
    · exact Nat.lt_succ_self _
    · exact Nat.lt_succ_of_lt hlt
  · obtain ⟨its, rv, pl, hz⟩ := I.tuple hq
    have hlt : p < s.heap.objs.size := pl.lt
    refine wpAny_pyIter_tuple (show s.heap.IsTuple p _ from pl) (h its s.heap.objs.size [s.heap.objs.size, p] _ _ rv (Walks.tuple (A := X.A.in1) hh _ p (Nat.ne_of_lt hlt) its.toArray) ⟨⟨_, Heap.get?_push_size _ rfl, rfl, rfl⟩, Heap.IsTuple.push (show s.heap.IsTuple p _ from pl) _⟩ (fun b hb => ?_) (fun h' tk hk => I.kept (kept_new hk)))
    show b < (s.heap.push _).objs.size
    rw [Heap.size_push]
    simp only [List.mem_cons, List.not_mem_nil, or_false] at hb
    rcases hb with rfl | rfl
    · exact Nat.lt_succ_self _
    · exact Nat.lt_succ_of_lt hlt
theorem call_all (hc : X.calm = true) : CallR X (.builtin "all") (rAllB X.K fun bs => bs.all id) := by
  intro pins s st H xs us Q I r h
  obtain ⟨p, bs, rfl, hq, q⟩ := h
  obtain ⟨u, rfl, ru⟩ := vals1 r
  cases ru
  refine call_all_walk (walk_seq (I.ok.hd hc) I hq fun its It fp St s2 rv W h0 hf hI => ?_)
  have ei := vals_bl rv
  subst ei
  refine ⟨_, _, _, _, _, _, fun i => bs.getD i false, rfl, W, h0, truth_bl bs, fun h' tk hk => ⟨.bl (bs.all id), H, hI h' tk hk, ?_, q⟩⟩
  show Value.bool _ = Value.bool _
  rw [List.size_toArray, List.length_map]
  exact congrArg Value.bool (range_at id false bs)
theorem preSum_take : ∀ (bs : List Int) (n : Nat), n ≤ bs.length → preSum (fun i => bs.getD i 0) n = (bs.take n).sum
  | bs, 0, _ => by simp [preSum]
  | bs, n + 1, h => by
    rw [preSum, preSum_take bs n (by omega), List.take_succ_eq_append_getElem (by omega), List.sum_append]
    simp [List.getD_eq_getElem?_getD, show n < bs.length by omega]
theorem call_sumI (hc : X.calm = true) : CallR X (.builtin "sum") (rSumI X.K) := by
  intro pins s st H xs us Q I r h
  obtain ⟨p, bs, rfl, hq, q⟩ := h
  obtain ⟨u, rfl, ru⟩ := vals1 r
  cases ru
  refine call_sum_walkG (walk_seq (I.ok.hd hc) I hq fun its It fp St s2 rv W h0 hf hI => ?_)
  refine ⟨_, _, _, _, _, _, fun i => bs.getD i 0, rfl, W, h0, hf, fun i v hv => ?_, fun h' tk t' hk => ⟨.int bs.sum, H, hI h' tk hk, ⟨t', ?_⟩, q⟩⟩
  · simp only [List.getElem?_toArray] at hv
    obtain ⟨x, h1, h2⟩ := vals_get rv hv
    rw [List.getElem?_map] at h1
    cases e : bs[i]? with
    | none => rw [e] at h1; cases h1
    | some b =>
      rw [e] at h1; cases h1
      obtain ⟨t, rfl⟩ := h2
      exact ⟨t, by show Value.int b t = Value.int (bs.getD i 0) t; rw [List.getD_eq_getElem?_getD, e]; rfl⟩
  · have el : its.toArray.size = bs.length := by rw [List.size_toArray, ← rv.length, List.length_map]
    rw [el, preSum_take bs _ (Nat.le_refl _), List.take_length]
theorem seq_bind {α : Type} {σ : Sto} {x : D} {g : List D → Option α} {bs : α} (h : (seqOf σ x).bind g = some bs) : ∃ ys, seqOf σ x = some ys ∧ g ys = some bs := Option.bind_eq_some_iff.mp h
theorem snd_all (hK : T.K = X.K) : SndCall T (rAllB X.K fun bs => bs.all id) oAll := by
  intro E μ H σ xs vs Q r p h
  match xs with
  | [] => exact h.elim
  | [x] =>
    rw [RepL] at p
    obtain ⟨v, w, rfl, p1, p2⟩ := p
    rw [RepL] at p2; subst p2
    unfold oAll at h
    cases e : (seqOf σ x).bind blsOf with
    | none => simp only [e] at h; exact h.elim
    | some bs =>
      simp only [e] at h
      obtain ⟨ys, e1, e2⟩ := seq_bind e
      obtain ⟨b, vs, rfl, h1, h2⟩ := seq_rep r p1 e1
      rw [hK, bls_rep h1 e2] at h2
      exact ⟨b, bs, rfl, h2, Post.here h r (by rw [Rep])⟩
  | _ :: _ :: _ => exact h.elim
theorem snd_sum (hK : T.K = X.K) : SndCall T (rSumI X.K) oSum := by
  intro E μ H σ xs vs Q r p h
  match xs with
  | [] => exact h.elim
  | [x] =>
    rw [RepL] at p
    obtain ⟨v, w, rfl, p1, p2⟩ := p
    rw [RepL] at p2; subst p2
    unfold oSum at h
    cases e : (seqOf σ x).bind intsOf with
    | none => simp only [e] at h; exact h.elim
    | some bs =>
      simp only [e] at h
      obtain ⟨ys, e1, e2⟩ := seq_bind e
      obtain ⟨b, vs, rfl, h1, h2⟩ := seq_rep r p1 e1
      rw [hK, ints_rep h1 e2] at h2
      exact ⟨b, bs, rfl, h2, Post.here h r (by rw [Rep])⟩
  | _ :: _ :: _ => exact h.elim
/-! ### max, min of two ints -/
def oMax2 (xs : List D) : M D := match xs with
  | [.int i, .int j] => ret (.int (max i j))
  | _ => bad
def oMin2 (xs : List D) : M D := match xs with
  | [.int i, .int j] => ret (.int (min i j))
  | _ => bad

/-! ### is True, is False -/
def oIsT (neg : Bool) (x y : D) : M D := fun σ => match y with
  | .bl k => (match x with
    | .bl c => .ok (.bl (if neg then !(c == k) else c == k)) σ
    | .non => .ok (.bl neg) σ
    | .int _ => .ok (.bl neg) σ
    | .str _ => .ok (.bl neg) σ
    | _ => .bad)
  | _ => .bad

/-! ### len(set(xs)), ints -/

/-! ### slices -/
def cutD (xs : List D) (lo hi : Option Int) : List D := (xs.drop (HT.sIx xs.length 0 lo)).take (HT.sIx xs.length xs.length hi - HT.sIx xs.length 0 lo)
theorem cutD_whole {xs : List D} {lo hi : Option Int} (h : HT.sIx xs.length 0 lo = 0 ∧ HT.sIx xs.length xs.length hi = xs.length) : cutD xs lo hi = xs := by
  unfold cutD; rw [h.1, h.2]; simp
theorem cutD_rep {μ : List Addr} {H : Hp} {xs : List D} {vs : List V} (r : RepL T μ H xs vs) (lo hi : Option Int) : RepL T μ H (cutD xs lo hi) (cutV vs lo hi) := by
  unfold cutD cutV
  rw [r.length]
  exact RepL.take _ (RepL.drop _ r)
end
end L4
namespace HT
open PySem PySem.Spec PyProof.Rows
variable {prog : Program} {w : World} {A : Around} {E : Value → Shared → Prop} {s : Shared}
theorem getItem_tuple_all {t sl : Addr} {items : Array Value} {vl vu : Value} {lo hi : Option Int} {Q : Value → Shared → Prop} (ht : IsTup s.heap t items) (hs : s.heap.IsSliceOf sl vl vu .none) (pl : IsPart vl lo) (pu : IsPart vu hi)
    (hw : sIx items.size 0 lo = 0 ∧ sIx items.size items.size hi = items.size) (h : Q (.ref t) s) : wpAny (model prog w) A (getItem (.ref t) (.ref sl)) Q E s := by
  obtain ⟨os, hos, hcs, hds⟩ := id hs
  have hTs : s.TypeIs (.ref sl) "slice" := ⟨os, hos, hcs⟩
  unfold getItem
  try with_reducible refine wpAny_holding ?_
  first | refine wpAny_bind (wpAny_pure ?_) | skip
  refine wpAny_bind (wpAny_sequenceKey ht.typeIs (by decide) ?_)
  refine wpAny_bind (wpAny_callSpecial?_slot (name := Str.ofString "__getitem__") ht.typeIs PyProof.Rows.slot_tuple_getitem
    (wpAny_call_entry PyProof.Rows.slot_tuple_getitem ht.typeIs entry_tuple_getitem ?_ (args_tuple_getitem _ _)))
  show wpAny _ _ (Builtin.Tuple.tupleItemsOf (.ref t) >>= _) _ _ s
  refine wpAny_bind (tupleItemsOf_ ht ?_)
  refine wpAny_bind (wpAny_typeOf hTs ?_)
  rw [if_pos (by decide)]
  refine wpAny_bind (sliceApplied_gen hs pl pu ?_)
  have hyes : (((sIx items.size 0 lo : Nat) : Int) == 0 && (1 : Int) == 1 && (sIx items.size items.size hi - sIx items.size 0 lo) == items.size) = true := by
    rw [hw.1, hw.2]; simp
  show wpAny _ _ (if (((sIx items.size 0 lo : Nat) : Int) == 0 && (1 : Int) == 1 && (sIx items.size items.size hi - sIx items.size 0 lo) == items.size) = true then _ else _) _ _ s
  rw [if_pos hyes]
  obtain ⟨o, ho, hc, hr⟩ := id ht
  unfold Builtin.Tuple.tupleIsExact
  refine wpAny_bind (wpAny_bind (wpAny_typeOf ht.typeIs ?_))
  refine wpAny_pure ?_
  rw [if_pos (by decide)]
  refine wpAny_bind (wpAny_rule ?_)
  first
    | exact wpAny_pure ⟨_, rfl, wpAny_pure h⟩
    | exact wpAny_pure (wpAny_pure ⟨_, rfl, wpAny_pure h⟩)
    | exact wpAny_bind (wpAny_pure (wpAny_pure ⟨_, rfl, wpAny_pure h⟩))
end HT
namespace L4
open PySem PySem.Spec PyProof.Rows L2
section
variable {T : Tb} {X : Cx}
def rSlA (K : PySem.W.Frag) : V → Option Int → Option Int → Hp → VK → Prop := fun x lo hi H Q => ∃ a xs, x = .ref a ∧ SqT K H a xs ∧ (HT.sIx xs.length 0 lo = 0 ∧ HT.sIx xs.length xs.length hi = xs.length) ∧ Q (.ref a) H
theorem sl_all : SlR X (rSlA X.K) := by
  intro pins s st H x v vl vu lo hi sl Q I rx hs pl pu h
  obtain ⟨a, xs, rfl, hx, hw, q⟩ := h
  cases rx
  obtain ⟨its, r, ht, hz⟩ := I.tuple hx
  have hlen : its.toArray.size = xs.length := by rw [List.size_toArray]; exact r.length.symm
  exact ⟨"tuple", _, PyProof.Rows.slot_tuple_getitem.lookup, ht.typeIs, HT.getItem_tuple_all ht hs pl pu (by rw [hlen]; exact hw) ⟨.ref a, H, I, rfl, q⟩⟩
/-- the parts of a slice -/
abbrev PF := Option (Ev → M D)
def partK (d : D) : M (Option Int) := match d with
  | .int i => ret (some i)
  | _ => bad
def ePart (p : PF) : Ev → M (Option Int) := match p with
  | none => fun _ => ret none
  | some f => fun ρ => bnd (f ρ) partK
def tP (T : Tb) (X : Cx) (f : Ev → M (Option Int)) : TO := fun st H Q => ∃ μ ρ σ, ERep T μ H ρ st ∧ Rel T μ H σ ∧ Post T (XE X st) (fun _ _ a b => b = a) μ H (f ρ σ) Q
abbrev FO (T : Tb) (X : Cx) (e : Option Expr) (p : PF) : Prop := PO X e (tP T X (ePart p))
theorem fo_none : FO T X none none := by
  intro pins s st H Q I h
  obtain ⟨μ, ρ, σ, hE, hr, hp⟩ := h
  exact po_none pins s st H Q I (Post.here hp hr rfl)
theorem fo_some {e : Expr} {f : Ev → M D} (he : FE T X e f) : FO T X (some e) (some f) := by
  intro pins s st H Q I h
  refine po_some he pins s st H Q I ?_
  obtain ⟨μ, ρ, σ, hE, hr, hp⟩ := h
  refine ⟨μ, ρ, σ, hE, hr, Post.bind hp fun d σ1 μ1 v H1 _ e1 r1 q1 p1 => ?_⟩
  cases d with
  | int i => exact ⟨i, int_of q1, Post.here p1 r1 rfl⟩
  | _ => exact p1.elim
def cutO (x : D) (lo hi : Option Int) : M D := fun σ => match x with
  | .tup xs => .ok (.tup (cutD xs lo hi)) σ
  | .scr ns => .ok (.lst (cutD (ns.map D.int) lo hi)) σ
  | x => (match lsOf σ x with
    | some xs => .ok (.lst (cutD xs lo hi)) σ
    | none => .bad)
def sl2K (x : D) (lo : Option Int) (hi : Option Int) : M D := cutO x lo hi
def sl1K (x : D) (hi : M (Option Int)) (lo : Option Int) : M D := bnd hi (sl2K x lo)
def sl0K (lo hi : M (Option Int)) (x : D) : M D := bnd lo (sl1K x hi)
def eSl (f : Ev → M D) (lo hi : PF) : Ev → M D := fun ρ => bnd (f ρ) (sl0K (ePart lo ρ) (ePart hi ρ))
theorem fe_slice {e : Expr} {lo hi : Option Expr} {f : Ev → M D} {pl ph : PF} {pos p2 : Pos} (hK : T.K = X.K) (he : FE T X e f) (hl : FO T X lo pl) (hh : FO T X hi ph) : FE T X (.Subscript e (.Slice lo hi none p2) pos) (eSl f pl ph) := by
  intro pins s st H Q I h
  refine pe_slice (SlR.or sl_tup (SlR.or sl_all sl_list)) he hl hh pins s st H Q I ?_
  obtain ⟨μ, ρ, σ, hE, hr, hp⟩ := h
  refine ⟨μ, ρ, σ, hE, hr, hp.bind fun d σ1 μ1 v H1 _ e1 r1 q1 p1 => ⟨μ1, ρ, σ1, hE.mono e1, r1, p1.bind fun l σ2 μ2 l' H2 _ e2 r2 q2 p2 => ⟨μ2, ρ, σ2, (hE.mono e1).mono e2, r2, p2.bind fun u σ3 μ3 u' H3 _ e3 r3 q3 p3 => ?_⟩⟩⟩
  have q2' : l' = l := q2
  have q3' : u' = u := q3
  subst q2'; subst q3'
  have rd : Rep T μ3 H3 d v := Rep.mono e3 _ _ (Rep.mono e2 _ _ q1)
  have lists : ∀ ys, lsOf σ3 d = some ys → Post T (XE X st) (Rep T) μ3 H3 (.ok (.lst (cutD ys l' u')) σ3) Q → rSlT X.K v l' u' H3 Q ∨ rSlA X.K v l' u' H3 Q ∨ rSlL X.K v l' u' H3 Q := fun ys ey p4 => by
    obtain ⟨a, vs, rfl, h1, h2⟩ := r3.ls rd ey
    exact .inr (.inr ⟨a, vs, rfl, SqL.of h1, fun p hn => new_lv p4 r3 (cutD_rep h2 l' u') hn⟩)
  cases d with
  | tup xs =>
    have rd0 := rd
    rw [Rep] at rd
    obtain ⟨p, vs, rfl, h1, h2⟩ := rd
    by_cases hw : HT.sIx vs.length 0 l' = 0 ∧ HT.sIx vs.length vs.length u' = vs.length
    · refine .inr (.inl ⟨p, vs, rfl, SqT.of h1, hw, Post.here (d := D.tup (cutD xs l' u')) p3 r3 ?_⟩)
      rw [cutD_whole (by rw [h2.length]; exact hw)]; exact rd0
    · exact .inl ⟨p, vs, rfl, SqT.of h1, hw, fun q hn => new_tup p3 r3 (cutD_rep h2 l' u') hn⟩
  | ref n =>
    unfold sl2K cutO at p3
    dsimp only at p3
    cases ey : lsOf σ3 (.ref n) with
    | none => rw [ey] at p3; exact p3.elim
    | some ys => rw [ey] at p3; exact lists ys ey p3
  | lst ys => exact lists ys rfl p3
  | scr ns =>
    rw [Rep] at rd
    obtain ⟨p, rfl, h1⟩ := rd
    have h2 := h1.seq
    rw [hK] at h2
    exact .inr (.inr ⟨p, _, rfl, h2, fun p hn => new_lv p3 r3 (cutD_rep (repl_ints ns) l' u') hn⟩)
  | _ => exact p3.elim
/-! ### min, max of a sequence of ints -/
/-! ### xs * n -/
end
end L4

namespace L4
open PySem PySem.Spec PyProof.Rows L2

/-! ### defs with defaults -/
def OkD (T : Tb) (P : Program) (w : World) (mg : Str → Option Value) (base : Heap) (k : Nat) (x : Str) (ps : List Str) (dv : List Value) (fn : List D → M D) : Prop :=
  ∃ f fd, mg x = some (.ref f) ∧ PySem.W.keepIn T.K (.ref f) = true ∧ Binds T.K fd ps [] ∧ Binds T.K fd ps dv ∧ FnOk P w T.K mg base (CXE P w) k f fd ps (spF T ps.length fn)
section
variable {T : Tb} {X : Cx}
variable {P : Program} {w : World} {K : PySem.W.Frag} {mg : Str → Option Value} {base : Heap} {ca : Nat → Addr}
theorem OkD.frz {k : Nat} {x : Str} {ps : List Str} {dv : List Value} {fn : List D → M D} (h : OkD T P w mg base k x ps dv fn) : OkD T P w mg base k x ps dv (fun ds => L4.frz (fn ds)) := by
  obtain ⟨f, fd, h1, h2, h3, h4, h5⟩ := h
  exact ⟨f, fd, h1, h2, h3, h4, fok_frz h5⟩
end
/-! ### which classes a handler takes -/
def htab (l : List (Nat × Bool)) : Nat → Option Bool := fun c => l.lookup c
abbrev veB : List Value := [.type "ValueError", .type "Exception", .type "BaseException", .type "object"]
def HtOk (K : PySem.W.Frag) (ca : Nat → Addr) (cv : Value) (l : List (Nat × Bool)) : Prop := ∀ p ∈ l, PySem.W.exmOne K (.ref (ca p.1)) cv = some p.2
theorem ht_nil {K : PySem.W.Frag} {ca : Nat → Addr} {cv : Value} : HtOk K ca cv [] := fun _ h => nomatch h
theorem ht_cons {K : PySem.W.Frag} {ca : Nat → Addr} {cv : Value} {c : Nat} {b : Bool} {l : List (Nat × Bool)} (h : PySem.W.exmOne K (.ref (ca c)) cv = some b) (r : HtOk K ca cv l) : HtOk K ca cv ((c, b) :: l) := fun p hp => by
  rcases List.mem_cons.mp hp with rfl | hp
  · exact h
  · exact r p hp
theorem lk_mem : ∀ {l : List (Nat × Bool)} {c : Nat} {b : Bool}, l.lookup c = some b → (c, b) ∈ l
  | [], _, _, h => by simp at h
  | (n, d) :: r, c, b, h => by
    rw [List.lookup_cons] at h
    cases e : c == n with
    | true => rw [e] at h; cases h; rw [eq_of_beq e]; exact List.mem_cons_self
    | false => rw [e] at h; exact List.mem_cons_of_mem _ (lk_mem h)
theorem ht_of {K : PySem.W.Frag} {ca : Nat → Addr} {cv : Value} {l : List (Nat × Bool)} (h : HtOk K ca cv l) : ∀ c b, htab l c = some b → PySem.W.exmOne K (.ref (ca c)) cv = some b := fun c b e => h (c, b) (lk_mem e)
/-! ### xs * n -/

/-! ### a function that the kernel does not open -/
theorem OkF.hide {T : Tb} {P : Program} {w : World} {mg : Str → Option Value} {base : Heap} {k : Nat} {x : Str} {ps : List Str} {fn : List D → M D} (h : OkF T P w mg base k x ps fn) : OkF T P w mg base k x ps (L4.hide fn) := by rw [hide_eq]; exact h
theorem OkD.hide {T : Tb} {P : Program} {w : World} {mg : Str → Option Value} {base : Heap} {k : Nat} {x : Str} {ps : List Str} {dv : List Value} {fn : List D → M D} (h : OkD T P w mg base k x ps dv fn) : OkD T P w mg base k x ps dv (L4.hide fn) := by rw [hide_eq]; exact h
end L4

/-! Own classes: fields, methods, making. -/
namespace L4
open PySem PySem.Spec PyProof.Rows L2
section
variable {T : Tb} {X : Cx} {μ : List Addr} {H : Hp} {σ : Sto}
/-- class and fields of an instance -/
def insOf (σ : Sto) : D → Option (Nat × List (Str × D))
  | .obj c ns ds => if ns.length = ds.length then some (c, ns.zip ds) else none
  | .ref n => match σ[n]? with
    | some (.ins c fs) => some (c, fs)
    | _ => none
  | _ => none
theorem repF_zip : ∀ {ns : List Str} {ds : List D} {fs : List (Str × V)}, fs.map (·.1) = ns → RepL T μ H ds (fs.map (·.2)) → RepF T μ H (ns.zip ds) fs
  | [], ds, [], _, h => by
    rw [List.map_nil] at h
    cases ds with
    | nil => exact Paired.nil
    | cons d ds => have := h.length; simp at this
  | [], ds, f :: fs, e, _ => by simp at e
  | n :: ns, ds, [], e, _ => by simp at e
  | n :: ns, [], f :: fs, e, h => by have := h.length; simp at this
  | n :: ns, d :: ds, f :: fs, e, h => by
    simp only [List.map_cons, List.cons.injEq] at e
    rw [List.map_cons, RepL] at h
    obtain ⟨v, r, e2, h1, h2⟩ := h
    simp only [List.cons.injEq] at e2
    obtain ⟨e3, e4⟩ := e2
    subst e4
    exact Paired.cons ⟨e.1.symm, by rw [e3]; exact h1⟩ (repF_zip e.2 h2)
theorem ins_rep (r : Rel T μ H σ) {d : D} {v : V} {c : Nat} {fs : List (Str × D)} (h : Rep T μ H d v) (e : insOf σ d = some (c, fs)) : ∃ a dx vs, v = .ref a ∧ H a = some (.ins (T.ca c) dx vs) ∧ RepF T μ H fs vs := by
  cases d with
  | obj c' ns ds =>
    unfold insOf at e
    by_cases hl : ns.length = ds.length
    · simp only [hl, if_true, Option.some.injEq, Prod.mk.injEq] at e
      obtain ⟨rfl, rfl⟩ := e
      rw [Rep] at h
      obtain ⟨a, dx, vs, rfl, _, h3, h4, h5⟩ := h
      exact ⟨a, dx, vs, rfl, h3, repF_zip h4 h5⟩
    · simp [hl] at e
  | ref n =>
    unfold insOf at e; dsimp only at e
    cases es : σ[n]? with
    | none => rw [es] at e; cases e
    | some o =>
      rw [es] at e
      obtain ⟨a, rfl, _, h2⟩ := r.at h es
      cases o with
      | ins c' fs' => cases e; obtain ⟨dx, vs, h3, h4⟩ := h2; exact ⟨a, dx, vs, rfl, h3, h4⟩
      | lst _ => cases e
      | dic _ => cases e
  | _ => cases e
theorem look_rep {f : Str} : ∀ {fs : List (Str × D)} {vs : List (Str × V)}, RepF T μ H fs vs → (∀ d, fs.lookup f = some d → ∃ v, vs.lookup f = some v ∧ Rep T μ H d v) ∧ (fs.lookup f = none → vs.lookup f = none)
  | _, _, .nil => ⟨fun d e => by simp at e, fun _ => rfl⟩
  | (g, x) :: fs, (g', v) :: vs, .cons ⟨e, h⟩ t => by
    have e' : g = g' := e
    subst e'
    obtain ⟨h1, h2⟩ := look_rep t
    by_cases hg : (f == g) = true
    · refine ⟨fun d q => ?_, fun q => ?_⟩
      · rw [List.lookup_cons, hg] at q; cases q
        exact ⟨v, by rw [List.lookup_cons, hg], h⟩
      · rw [List.lookup_cons, hg] at q; cases q
    · have hg' : (f == g) = false := by simpa using hg
      refine ⟨fun d q => ?_, fun q => ?_⟩
      · rw [List.lookup_cons, hg'] at q
        obtain ⟨w, q1, q2⟩ := h1 d q
        exact ⟨w, by rw [List.lookup_cons, hg']; exact q1, q2⟩
      · rw [List.lookup_cons, hg'] at q
        rw [List.lookup_cons, hg']; exact h2 q
/-! ### e.f -/
def FldOk (T : Tb) (cs : List Nat) (f : Str) : Prop := ∀ c, cs.contains c = true → Cls T.K (T.ca c) ∧ NoAttr T.K (T.ca c) f
theorem fld_nil {f : Str} : FldOk T [] f := fun c h => by simp at h
theorem fld_cons {f : Str} {c : Nat} {cs : List Nat} (h1 : Cls T.K (T.ca c)) (h2 : NoAttr T.K (T.ca c) f) (h : FldOk T cs f) : FldOk T (c :: cs) f := fun d hd => by
  rw [List.contains_cons, Bool.or_eq_true, beq_iff_eq] at hd
  rcases hd with rfl | hd
  · exact ⟨h1, h2⟩
  · exact h d hd
def oFld (cs : List Nat) (f : Str) (x : D) : M D := fun σ => match insOf σ x with
  | some (c, fs) => if cs.contains c = true then (match fs.lookup f with
    | some d => .ok d σ
    | none => .bad) else .bad
  | none => .bad
theorem fe_fld {e : Expr} {f : Str} {g : Ev → M D} {pos : Pos} {cs : List Nat} (hK : T.K = X.K) (hc : FldOk T cs f) (he : FE T X e g)
    (hb : attributeBase e f X.env (eval e X.env) = eval e X.env := by rfl) : FE T X (.Attribute e f pos) (eUn (oFld cs f) g) := by
  intro pins s st H Q I h
  refine pe_fld he hb pins s st H Q I ?_
  obtain ⟨μ, ρ, σ, hE, hr, hp⟩ := h
  refine ⟨μ, ρ, σ, hE, hr, Post.bind hp fun d σ1 μ1 v H1 _ e1 r1 q1 p1 => ?_⟩
  unfold oFld at p1
  cases ei : insOf σ1 d with
  | none => rw [ei] at p1; exact p1.elim
  | some p =>
    obtain ⟨c, fs⟩ := p
    rw [ei] at p1; dsimp only at p1
    by_cases hcc : cs.contains c = true
    · rw [if_pos hcc] at p1
      obtain ⟨a, dx, vs, rfl, h1, h2⟩ := ins_rep r1 q1 ei
      cases el : fs.lookup f with
      | none => rw [el] at p1; exact p1.elim
      | some y =>
        rw [el] at p1
        obtain ⟨w, h3, h4⟩ := (look_rep h2).1 y el
        obtain ⟨k1, k2⟩ := hc c hcc
        rw [hK] at k1 k2
        exact ⟨a, _, dx, vs, w, rfl, h1, k1, k2, h3, Post.here p1 r1 h4⟩
    · rw [if_neg hcc] at p1; exact p1.elim
/-! ### e.f = v -/
def putD (f : Str) (v : D) : List (Str × D) → List (Str × D)
  | [] => [(f, v)]
  | (g, x) :: r => if g = f then (g, v) :: r else (g, x) :: putD f v r
theorem put_rep {f : Str} {d : D} {v : V} (hd : Rep T μ H d v) : ∀ {fs : List (Str × D)} {vs : List (Str × V)}, RepF T μ H fs vs → RepF T μ H (putD f d fs) (putF f v vs)
  | _, _, .nil => Paired.cons ⟨rfl, hd⟩ Paired.nil
  | (g, x) :: fs, (g', w) :: vs, .cons ⟨e, h⟩ t => by
    have e' : g = g' := e
    subst e'
    unfold putD putF
    by_cases hg : g = f
    · rw [if_pos hg, if_pos hg]; exact Paired.cons ⟨rfl, hd⟩ t
    · rw [if_neg hg, if_neg hg]; exact Paired.cons ⟨rfl, h⟩ (put_rep hd t)
theorem RepF.mono {μ' : List Addr} {H' : Hp} (e : Ext μ H μ' H') {fs : List (Str × D)} {vs : List (Str × V)} (h : RepF T μ H fs vs) : RepF T μ' H' fs vs := Paired.mapP h fun _ _ q => ⟨q.1, Rep.mono e _ _ q.2⟩
theorem RepF.length {fs : List (Str × D)} {vs : List (Str × V)} (h : RepF T μ H fs vs) : fs.length = vs.length := Paired.length h
def oPut (cs : List Nat) (f : Str) (d x : D) : M Unit := fun σ => match x with
  | .ref n => (match σ[n]? with
    | some (.ins c fs) => if (cs.contains c && decide (fs.length < 1000)) = true then .ok () (σ.set n (.ins c (putD f d fs))) else .bad
    | _ => .bad)
  | _ => .bad
def putK2 (ρ : Ev) (cs : List Nat) (f : Str) (d x : D) : M Fl := fun σ => match oPut cs f d x σ with
  | .ok _ σ' => .ok (.nx ρ) σ'
  | _ => .bad
def putK1 (ρ : Ev) (cs : List Nat) (f : Str) (fo : Ev → M D) (d : D) : M Fl := xs ρ (fo ρ) (putK2 ρ cs f d)
def sPut (cs : List Nat) (f : Str) (fv fo : Ev → M D) : Ev → M Fl := fun ρ => xs ρ (fv ρ) (putK1 ρ cs f fo)
theorem fs_fld {o value : Expr} {f : Str} {fv fo : Ev → M D} {pos pos' : Pos} {cs : List Nat} (hK : T.K = X.K) (hc : FldOk T cs f) (ho : FE T X o fo) (hv : FE T X value fv)
    (hs : swapsWith value (some (.Attribute o f pos')) pos.line X.env = pure false := by rfl) : FS T X (.Assign [.Attribute o f pos'] value pos) (sPut cs f fv fo) := by
  intro pins s st H D I hq
  refine ps_fld ho hv hs pins s st H D I ?_
  obtain ⟨μ, ρ, σ, hE, hr, hp⟩ := hq
  refine ⟨μ, ρ, σ, hE, hr, hp.xs hE fun d σ1 μ1 v H1 _ e1 r1 q1 p1 => ?_⟩
  refine ⟨μ1, ρ, σ1, hE.mono e1, r1, p1.xs (hE.mono e1) fun x σ2 μ2 vo H2 _ e2 r2 q2 p2 => ?_⟩
  have hd := Rep.mono e2 _ _ q1
  unfold putK2 oPut at p2
  cases x with
  | ref n =>
    dsimp only at p2
    cases el : σ2[n]? with
    | none => rw [el] at p2; exact p2.elim
    | some ob =>
      rw [el] at p2
      cases ob with
      | lst _ => exact p2.elim
      | dic _ => exact p2.elim
      | ins c fs =>
        dsimp only at p2
        by_cases hcc : (cs.contains c && decide (fs.length < 1000)) = true
        · rw [if_pos hcc] at p2
          rw [Bool.and_eq_true, decide_eq_true_eq] at hcc
          obtain ⟨a, rfl, hn, dx, vs, h1, h2⟩ := r2.at q2 el
          have ex : Ext μ2 H2 μ2 (upd H2 a (.ins (T.ca c) dx (putF f v vs))) := ext_write (List.mem_of_getElem? hn) h1 (fun _ z => by cases z) (fun _ _ z => by cases z)
          have wr := r2.write (o := .ins (T.ca c) dx (putF f v vs)) (ob := .ins c (putD f d fs)) hn ⟨dx, _, upd_same, put_rep (Rep.mono ex _ _ hd) (RepF.mono ex h2)⟩
          obtain ⟨k1, k2⟩ := hc c hcc.1
          rw [hK] at k1 k2
          exact ⟨a, _, dx, vs, rfl, h1, k1, k2, by rw [← h2.length]; exact hcc.2, p2 _ (.nx st) _ wr.1 wr.2 ((hE.mono e1).mono e2 |>.mono wr.1)⟩
        · rw [if_neg hcc] at p2; exact p2.elim
  | _ => exact p2.elim
/-! ### C(..) -/
def noneO (n : Nat) : Out D → Out D
  | .ok .non σ' => .ok (.ref n) σ'
  | .ok _ _ => .bad
  | .ex x σ' => .ex x σ'
  | .bad => .bad
def makeK (c n : Nat) (fn : List D → M D) (ds : List D) : M D := fun σ => if ds.length + 1 = n then noneO σ.length (fn (.ref σ.length :: ds) (σ ++ [.ins c []])) else .bad
def eMake (c n : Nat) (fn : List D → M D) (fs : Ev → M (List D)) : Ev → M D := fun ρ => bnd (fs ρ) (makeK c n fn)
/-- a function at an address, with what it does -/
def OkA (T : Tb) (P : Program) (w : World) (mg : Str → Option Value) (base : Heap) (k : Nat) (f : Addr) (ps : List Str) (fn : List D → M D) : Prop :=
  ∃ fd, (∀ us : List Value, us.length = ps.length → bindArgs fd ⟨us, []⟩ = pure (ps.zip us)) ∧ FnOk P w T.K mg base (CXE P w) k f fd ps (spF T ps.length fn)
def OkC (T : Tb) (P : Program) (w : World) (mg : Str → Option Value) (base : Heap) (k : Nat) (x : Str) (c : Nat) (ps : List Str) (fn : List D → M D) : Prop :=
  ∃ f, mg x = some (.ref (T.ca c)) ∧ Mk T.K (T.ca c) f ∧ OkA T P w mg base k f ps fn
theorem make_post {E : XK} {c : Nat} {ps : List Str} {fn : List D → M D} {ds : List D} {vs : List V} {Q : VK} (r : Rel T μ H σ) (q : RepL T μ H ds vs) (p : Post T E (Rep T) μ H (makeK c ps.length fn ds σ) Q) :
    ∀ x dx, H x = none → H dx = none → dx ≠ x → spF T ps.length fn (.ref x :: (vs ++ [])) (upd (upd H dx (.own x)) x (.ins (T.ca c) dx [])) (fun v H2 => v = .non ∧ Q (.ref x) H2) E := by
  intro x dx hx hdx hne
  unfold makeK at p
  by_cases hl : ds.length + 1 = ps.length
  · rw [if_pos hl] at p
    have ex1 : Ext μ H μ (upd H dx (.own x)) := ext_new hdx
    have r1 : Rel T μ (upd H dx (.own x)) σ := r.fresh hdx
    have hx1 : upd H dx (.own x) x = none := by unfold upd; rw [if_neg (Ne.symm hne)]; exact hx
    have ex2 : Ext μ (upd H dx (.own x)) (μ ++ [x]) (upd (upd H dx (.own x)) x (.ins (T.ca c) dx [])) := ext_push hx1
    have r2 : Rel T (μ ++ [x]) (upd (upd H dx (.own x)) x (.ins (T.ca c) dx [])) (σ ++ [.ins c []]) := r1.push hx1 ⟨dx, [], upd_same, Paired.nil⟩
    refine ⟨μ ++ [x], σ ++ [.ins c []], .ref σ.length :: ds, RepL.cons (rep_push r1) (by rw [List.append_nil]; exact RepL.mono (ex1.trans ex2) _ _ q), by rw [List.length_cons]; exact hl, r2, ?_⟩
    cases e : fn (.ref σ.length :: ds) (σ ++ [.ins c []]) with
    | bad => rw [e] at p; exact p.elim
    | ex y σ' => rw [e] at p; exact fun μ' H' e' r' => p μ' H' ((ex1.trans ex2).trans e') r'
    | ok d σ' =>
      rw [e] at p
      intro μ' v H' e' r' q'
      have hv : d = .non := by cases d <;> first | rfl | exact p.elim
      subst hv
      rw [Rep] at q'
      refine ⟨q', p μ' (.ref x) H' ((ex1.trans ex2).trans e') r' ?_⟩
      exact Rep.mono e' _ _ (rep_push r1)
  · rw [if_neg hl] at p; exact p.elim
theorem run_makeX {k : Nat} {C f : Addr} {fd : FuncData} {ps : List Str} {sp : Sp} {dvs : List V} {ds : List Value} {pins : List (Addr × Obj)} {st : St} {H : Hp} {s : Shared} {Q : VK} {us : List Value} {vs : List V} (M : Mk X.K C f) (F : FnOk X.prog X.w X.K X.mg X.base (CXE X.prog X.w) k f fd ps sp) (hr : Room (k + 1) X.A) (hb : Binds X.K fd ps ds) (hd : Vals dvs ds)
    (I : Inv X pins st H s) (r : Vals vs us)
    (h : ∀ x dx, H x = none → H dx = none → dx ≠ x → sp (.ref x :: (vs ++ dvs)) (upd (upd H dx (.own x)) x (.ins C dx [])) (fun v H2 => v = .non ∧ Q (.ref x) H2) (XE X st)) :
    wpAny (model X.prog X.w) X.A (call (.ref C) us) (EP X pins st Q) X.xe s := by
  have hq := h (s.heap.objs.size + 1) s.heap.objs.size (I.hok.fresh (Nat.le_succ _)) (I.hok.fresh (Nat.le_refl _)) (Nat.ne_of_lt (Nat.lt_succ_self _))
  have I2 := Inv.made (C := C) I
  have r2 : Vals (V.ref (s.heap.objs.size + 1) :: (vs ++ dvs)) (Value.ref (s.heap.objs.size + 1) :: (us ++ ds)) := .cons rfl (r.append hd)
  have hl : (Value.ref (s.heap.objs.size + 1) :: us ++ ds).length = ps.length := by
    have e := r2.length
    rw [F.len _ _ _ _ hq] at e
    exact e.symm
  refine wpAny_call (make_map (f := f) I.kIn M.makes M.init (beq_iff_eq.mp M.fn) (codeAny_mono (F.run _ X.stack _ _ ⟨Value.ref (s.heap.objs.size + 1) :: us, []⟩ (Value.ref (s.heap.objs.size + 1) :: (us ++ ds)) _ _ (XE X st) (hr.make C us [])
    (I2.env0.make C us []) (hb _ (Value.ref (s.heap.objs.size + 1) :: us) I2.kIn hl) r2 hq) fun r s' hq' => ?_))
  cases r with
  | error e => obtain ⟨cls, fd, H', hfly, ht⟩ := hq'; exact ht.fly pins _ _ e s' I2 hfly
  | ok fl =>
    cases fl with
    | ret u =>
      obtain ⟨v, H', I3, rv, ev, q3⟩ := I2.after hq'
      subst ev
      exact ⟨rv, ⟨V.ref (s.heap.objs.size + 1), H', I3, rfl, q3⟩⟩
    | next => exact False.elim hq'
    | brk => exact False.elim hq'
    | cont => exact False.elim hq'
theorem fe_make {k c : Nat} {ps : List Str} {fn : List D → M D} {x : Str} {p pos : Pos} {e : Expr} {es : List Expr} {fs : Ev → M (List D)} (h : OkC T X.prog X.w X.mg X.base k x c ps fn) (hK : T.K = X.K) (hr : Room (k + 1) X.A) (hg : Gl X x)
    (ha : FA T X (e :: es) fs) (hdb : (x == ("__debug__" : Str)) = false := by decide) (he : starEach (e :: es) X.env = (false, eval e X.env) :: starEach es X.env := by rfl) (hpl : (backTo pos (starEach es X.env)).any (·.1) = false := by rfl) :
    FE T X (.Call (.Name x p) (e :: es) [] pos) (eMake c ps.length fn fs) := by
  obtain ⟨f, hm, hM, fd, hb, hF⟩ := h
  rw [hK] at hM hF
  intro pins s st H Q I hq
  obtain ⟨μ, ρ, σ, hE, hr', hp⟩ := hq
  refine wpAny_Call_Name_kw (ld_glob I hg hm ?_ hdb)
  refine PySem.W.callWith_K (h₀ := X.base) I.ok.mod.kin hM.kp (thn (ha pos pins s st H (fun vs H1 => ∀ x dx, H1 x = none → H1 dx = none → dx ≠ x → spF T ps.length fn (.ref x :: (vs ++ [])) (upd (upd H1 dx (.own x)) x (.ins (T.ca c) dx [])) (fun v H2 => v = .non ∧ Q (.ref x) H2) (XE X st)) I ⟨μ, ρ, σ, hE, hr', hp.bind fun ds σ1 μ1 vs H1 _ e1 r1 p1 q1 => make_post r1 p1 q1⟩) fun us s1 ⟨vs, H1, I1, r, q⟩ => ⟨I1.kIn, ?_⟩) he hpl
  exact run_makeX (ds := []) (dvs := []) hM hF hr (.all hb) .nil I1 r q
/-! ### o.m(..) -/
/-- for each class: what its method does -/
structure OkM (T : Tb) (P : Program) (w : World) (mg : Str → Option Value) (base : Heap) (k : Nat) (m : Str) (c : Nat) (ps : List Str) (fn : List D → M D) : Prop where
  cl : Cls T.K (T.ca c)
  ex : ∃ f, Meth T.K (T.ca c) m f ∧ OkA T P w mg base k f ps fn
abbrev Mt := List (Nat × (List D → M D))
def lkM : Mt → Nat → Option (List D → M D)
  | [], _ => none
  | (c, fn) :: r, d => if c == d then some fn else lkM r d
def mthK2 (n : Nat) (fn : List D → M D) (x : D) (ds : List D) : M D := if ds.length + 1 = n then fn (x :: ds) else bad
def mthK (tb : Mt) (n : Nat) (m : Str) (fs : M (List D)) (x : D) : M D := fun σ => match insOf σ x with
  | some (c, gs) => (match lkM tb c, gs.lookup m with
    | some fn, none => bnd fs (mthK2 n fn x) σ
    | _, _ => .bad)
  | none => .bad
def eMth (tb : Mt) (n : Nat) (m : Str) (f : Ev → M D) (fs : Ev → M (List D)) : Ev → M D := fun ρ => bnd (f ρ) (mthK tb n m (fs ρ))
theorem lkM_mem : ∀ {tb : Mt} {c : Nat} {fn : List D → M D}, lkM tb c = some fn → (c, fn) ∈ tb
  | [], _, _, h => by cases h
  | (d, g) :: r, c, fn, h => by
    unfold lkM at h
    by_cases e : (d == c) = true
    · rw [if_pos e] at h; cases h
      rw [beq_iff_eq.mp e]; exact List.mem_cons_self
    · rw [if_neg e] at h; exact List.mem_cons_of_mem _ (lkM_mem h)
theorem fe_mth {pl : Sem Bool} {k : Nat} {tb : Mt} {ps : List Str} {m : Str} {o e : Expr} {es : List Expr} {f : Ev → M D} {fs : Ev → M (List D)} {pos apos : Pos} (hK : T.K = X.K) (he : FE T X o f) (h : ∀ q ∈ tb, OkM T X.prog X.w X.mg X.base k m q.1 ps q.2) (hr : Room k X.A) (ha : FA T X (e :: es) fs)
    (hst : starEach (e :: es) X.env = (false, eval e X.env) :: starEach es X.env := by rfl) (hpl : (backTo pos (starEach es X.env)).any (·.1) = false := by rfl)
    (ht : eval (.Call (.Attribute o m apos) (e :: es) [] pos) X.env = (do
      let ov ← eval o X.env
      standAt apos.atName
      let (f, first) ← holding [ov] (getMethod ov m pl)
      callWith pos f first (backTo pos (starEach (e :: es) X.env)) (backToKw pos (keywordEach [] X.env))) := by rfl) :
    FE T X (.Call (.Attribute o m apos) (e :: es) [] pos) (eMth tb ps.length m f fs) := by
  intro pins s st H Q I hq
  obtain ⟨μ, ρ, σ, hE, hr', hp⟩ := hq
  have hE' := hE
  refine PySem.W.methodCall_KW (pl := pl) (thn (he pins s st H (fun x H1 => ∃ a c dx vs fn, x = .ref a ∧ H1 a = some (.ins (T.ca c) dx vs) ∧ lkM tb c = some fn ∧ vs.lookup m = none ∧ tL T X fs st H1 fun us H2 => spF T ps.length fn (x :: (us ++ [])) H2 Q (XE X st)) I ⟨μ, ρ, σ, hE, hr', hp.bind fun d σ1 μ1 v H1 _ e1 r1 q1 p1 => ?_⟩) fun u s1 ⟨x, H1, I1, rx, a, c, dx, vs, fn, ex, ea, el, en, q⟩ => ?_) ht
  · unfold mthK at p1
    cases ei : insOf σ1 d with
    | none => rw [ei] at p1; exact p1.elim
    | some z =>
      obtain ⟨c, gs⟩ := z
      rw [ei] at p1; dsimp only at p1
      cases el : lkM tb c with
      | none => rw [el] at p1; exact p1.elim
      | some fn =>
        cases en : gs.lookup m with
        | some y => rw [el, en] at p1; exact p1.elim
        | none =>
          rw [el, en] at p1; dsimp only at p1
          obtain ⟨a, dx, vs, rfl, h1, h2⟩ := ins_rep r1 q1 ei
          refine ⟨a, c, dx, vs, fn, rfl, h1, el, (look_rep h2).2 en, μ1, ρ, σ1, hE'.mono e1, r1, p1.bind fun ds σ2 μ2 us H2 _ e2 r2 q2 p2 => ?_⟩
          unfold mthK2 at p2
          by_cases hl : ds.length + 1 = ps.length
          · rw [if_pos hl] at p2
            exact ⟨μ2, σ2, d :: ds, RepL.cons (Rep.mono e2 _ _ q1) (by rw [List.append_nil]; exact q2), by rw [List.length_cons]; exact hl, r2, p2⟩
          · rw [if_neg hl] at p2; exact p2.elim
  · subst ex
    obtain rfl : u = Value.ref a := rx
    obtain ⟨hC, f', hM, fd, hb, hF⟩ := h _ (lkM_mem el)
    rw [hK] at hC hM hF
    refine getmeth_ok I1 ea hC hM en ?_
    refine PySem.W.callWith_K (first := [.ref a]) (h₀ := X.base) I.ok.mod.kin hM.kp (thn (ha pos pins s1 st H1 _ I1 q) fun us s2 ⟨vs, H2, I2, r, q2⟩ => ⟨I2.kIn, ?_⟩) hst hpl
    exact run_fnX (us := .ref a :: us) (vs := .ref a :: vs) hF hr (.all hb) .nil I2 (.cons rfl r) q2
/-- o.m() -/
theorem fe_mth0 {pl : Sem Bool} {k : Nat} {tb : Mt} {ps : List Str} {m : Str} {o : Expr} {f : Ev → M D} {pos apos : Pos} (hK : T.K = X.K) (he : FE T X o f) (h : ∀ q ∈ tb, OkM T X.prog X.w X.mg X.base k m q.1 ps q.2) (hr : Room k X.A)
    (ht : eval (.Call (.Attribute o m apos) [] [] pos) X.env = (do
      let ov ← eval o X.env
      standAt apos.atName
      let (f, first) ← holding [ov] (getMethod ov m pl)
      callWith pos f first (backTo pos (starEach [] X.env)) (backToKw pos (keywordEach [] X.env))) := by rfl) :
    FE T X (.Call (.Attribute o m apos) [] [] pos) (eMth tb ps.length m f aNil) := by
  intro pins s st H Q I hq
  obtain ⟨μ, ρ, σ, hE, hr', hp⟩ := hq
  refine PySem.W.methodCall_KW (pl := pl) (thn (he pins s st H (fun x H1 => ∃ a c dx vs fn, x = .ref a ∧ H1 a = some (.ins (T.ca c) dx vs) ∧ lkM tb c = some fn ∧ vs.lookup m = none ∧ spF T ps.length fn (x :: ([] ++ [])) H1 Q (XE X st)) I ⟨μ, ρ, σ, hE, hr', hp.bind fun d σ1 μ1 v H1 _ e1 r1 q1 p1 => ?_⟩) fun u s1 ⟨x, H1, I1, rx, a, c, dx, vs, fn, ex, ea, el, en, q⟩ => ?_) ht
  · unfold mthK at p1
    cases ei : insOf σ1 d with
    | none => rw [ei] at p1; exact p1.elim
    | some z =>
      obtain ⟨c, gs⟩ := z
      rw [ei] at p1; dsimp only at p1
      cases el : lkM tb c with
      | none => rw [el] at p1; exact p1.elim
      | some fn =>
        cases en : gs.lookup m with
        | some y => rw [el, en] at p1; exact p1.elim
        | none =>
          rw [el, en] at p1; dsimp only at p1
          obtain ⟨a, dx, vs, rfl, h1, h2⟩ := ins_rep r1 q1 ei
          have p2 : Post T (XE X st) (Rep T) μ1 H1 (mthK2 ps.length fn d [] σ1) Q := p1
          unfold mthK2 at p2
          by_cases hl : ([] : List D).length + 1 = ps.length
          · rw [if_pos hl] at p2
            exact ⟨a, c, dx, vs, fn, rfl, h1, el, (look_rep h2).2 en, μ1, σ1, [d], RepL.cons q1 RepL.nil, hl, r1, p2⟩
          · rw [if_neg hl] at p2; exact p2.elim
  · subst ex
    obtain rfl : u = Value.ref a := rx
    obtain ⟨hC, f', hM, fd, hb, hF⟩ := h _ (lkM_mem el)
    rw [hK] at hC hM hF
    refine getmeth_ok I1 ea hC hM en ?_
    exact PySem.W.callWith_K0 (first := [.ref a]) I1.kIn hM.kp (run_fnX (us := [.ref a]) (vs := [.ref a]) hF hr (.all hb) .nil I1 (.cons rfl .nil) q)
/-! ### C.m(self, ..) -/
structure OkU (T : Tb) (P : Program) (w : World) (mg : Str → Option Value) (base : Heap) (k : Nat) (x m : Str) (c : Nat) (ps : List Str) (fn : List D → M D) : Prop where
  gl : mg x = some (.ref (T.ca c))
  sp : PySem.W.specialIn T.K (.ref (T.ca c)) (Str.ofString "__getattribute__") = some (some (.builtin "type.__getattribute__"))
  ex : ∃ f mc, PySem.W.readsIn T.K (T.ca c) mc = true ∧ PySem.W.findCls T.K (.ref (T.ca c)) mc m = some (.val (.ref f)) ∧ PySem.W.keepIn T.K (.ref f) = true ∧ OkA T P w mg base k f ps fn
end
/-! ### the text's methods: a function found in a class -/
structure HasM (K : PySem.W.Frag) (C : Addr) (x qual : Str) (st : Stmt) (ps : List Str) (f : Addr) : Prop where
  ex : ∃ fd, Fun K x qual st f fd ∧ ∀ us : List Value, us.length = ps.length → bindArgs fd ⟨us, []⟩ = pure (ps.zip us)
section
variable {P : Program} {w : World} {K : PySem.W.Frag} {mg : Str → Option Value} {base : Heap} {ca : Nat → Addr}
theorem okA_of {k : Nat} {C f : Addr} {x qual : Str} {st : Stmt} {ps N : List Str} {g : Ev → M Fl} (h : HasM K C x qual st ps f) (S : FnScope N ps (defScope st))
    (hb : ∀ (cdv : Value) (A : Around) (outer : List Env) (s : Shared) (H : Hp) (E : XK), Room k (A.deeper (envOfC qual (defScope st) s.heap.objs.size f cdv)) → FSs ⟨K, ca⟩ (cxOf (CXE P w) P w K mg base N qual (defScope st) f cdv A outer s H E) (defBody st) g) :
    OkA ⟨K, ca⟩ P w mg base (k + 1) f ps (run N.length g) := by
  obtain ⟨fd, F, hbd⟩ := h.ex
  obtain ⟨oc, od, kV, doc, pm, an, cdv, ct, osl, rfl, lk, hcd⟩ := F.ex
  exact ⟨_, hbd, fok lk hcd S (hb cdv)⟩
theorem OkA.frz {T : Tb} {k : Nat} {f : Addr} {ps : List Str} {fn : List D → M D} (h : OkA T P w mg base k f ps fn) : OkA T P w mg base k f ps (fun ds => L4.frz (fn ds)) := by
  obtain ⟨fd, h3, h4⟩ := h
  exact ⟨fd, h3, fok_frz h4⟩
theorem OkA.hide {T : Tb} {k : Nat} {f : Addr} {ps : List Str} {fn : List D → M D} (h : OkA T P w mg base k f ps fn) : OkA T P w mg base k f ps (L4.hide fn) := by rw [hide_eq]; exact h
end

/-! ### for the printed text -/
def mthOf (s : Stmt) (j : Nat) : Stmt := match s with
  | .ClassDef _ _ _ b _ _ _ _ _ _ _ => b.getD j (.Pass ⟨0, 0, 0, 0⟩)
  | s => s
theorem mkM {K : PySem.W.Frag} {C f : Addr} {x qual : Str} {st : Stmt} {ps : List Str} {oc : Value} {od an : Option Addr} {osl : Array (Option Value)} {kV doc pm cdv ct : Value}
    (hb : ∀ (kV doc pm : Value) (an : Option Addr) (cdv ct : Value) (us : List Value), us.length = ps.length → bindArgs (PySem.W.fnOf x qual (defArgs st) (defBody st) (defScope st) .none kV doc pm an cdv ct) ⟨us, []⟩ = pure (ps.zip us))
    (l : K.lookup f = some ⟨oc, od, .func (PySem.W.fnOf x qual (defArgs st) (defBody st) (defScope st) .none kV doc pm an cdv ct), osl⟩)
    (c : PySem.W.codeIn K cdv qual = true) (k : PySem.W.keepIn K (.ref f) = true) : HasM K C x qual st ps f := ⟨⟨_, fun_mk l c k, hb kV doc pm an cdv ct⟩⟩
section
variable {T : Tb} {P : Program} {w : World} {mg : Str → Option Value} {base : Heap}
def MtOk (T : Tb) (P : Program) (w : World) (mg : Str → Option Value) (base : Heap) (k : Nat) (m : Str) (ps : List Str) (tb : Mt) : Prop := ∀ q ∈ tb, OkM T P w mg base k m q.1 ps q.2
theorem mt_nil {k : Nat} {m : Str} {ps : List Str} : MtOk T P w mg base k m ps [] := fun q h => nomatch h
theorem mt_cons {j k : Nat} {m : Str} {ps : List Str} {tb : Mt} {c : Nat} {f : Addr} {fn : List D → M D} (h1 : Cls T.K (T.ca c)) (h2 : Meth T.K (T.ca c) m f) (h3 : OkA T P w mg base j f ps fn) (hj : j ≤ k) (h : MtOk T P w mg base k m ps tb) : MtOk T P w mg base k m ps ((c, fn) :: tb) := fun q hq => by
  rcases List.mem_cons.mp hq with rfl | hq
  · obtain ⟨fd, a, b⟩ := h3
    exact ⟨h1, f, h2, fd, a, b.mono hj⟩
  · exact h q hq
end
section
variable {T : Tb} {X : Cx}
end
end L4

/-! Reckoning with the data's functions, by simp. -/
namespace L4
open PySem L2
theorem nr {α : Type} {a b : α} (h : a = b) : a = b := h
section
variable {α β : Type} {ρ : Ev} {σ : Sto}
@[simp] theorem bind_ok (a : α) (σ : Sto) (k : α → M β) : (Out.ok a σ).bind k = k a σ := nr rfl
@[simp] theorem bind_ex (x : Xn) (σ : Sto) (k : α → M β) : (Out.ex x σ : Out α).bind k = .ex x σ := nr rfl
@[simp] theorem bind_bad (k : α → M β) : (Out.bad : Out α).bind k = .bad := nr rfl
@[simp] theorem ret_ap (a : α) (σ : Sto) : ret a σ = .ok a σ := nr rfl
@[simp] theorem bad_ap (σ : Sto) : (bad : M α) σ = .bad := nr rfl
@[simp] theorem bnd_ap (m : M α) (k : α → M β) (σ : Sto) : bnd m k σ = (m σ).bind k := nr rfl
@[simp] theorem eC_ap (d : D) : eC d ρ σ = .ok d σ := nr rfl
@[simp] theorem eVar_0 (d : D) (r : Ev) : eVar 0 (some d :: r) σ = .ok d σ := nr rfl
@[simp] theorem eVar_S (i : Nat) (o : Option D) (r : Ev) : eVar (i + 1) (o :: r) σ = eVar i r σ := nr rfl
@[simp] theorem eBin_ap (o : D → D → M D) (a b : Ev → M D) : eBin o a b ρ σ = (a ρ σ).bind (binK o (b ρ)) := nr rfl
@[simp] theorem binK_ap (o : D → D → M D) (m : M D) (x : D) : binK o m x σ = (m σ).bind (o x) := nr rfl
@[simp] theorem eUn_ap (o : D → M D) (a : Ev → M D) : eUn o a ρ σ = (a ρ σ).bind o := nr rfl
@[simp] theorem tst_ap (b : Bool) : tst (.bl b) σ = .ok b σ := nr rfl
@[simp] theorem ifK_t (p q : M α) : ifK p q true σ = p σ := nr rfl
@[simp] theorem ifK_f (p q : M α) : ifK p q false σ = q σ := nr rfl
@[simp] theorem notK_ap (c : Bool) : notK c σ = .ok (!c) σ := nr rfl
@[simp] theorem testK_ap (k : Bool → M α) (b : Bool) : testK k (.bl b) σ = k b σ := nr rfl
@[simp] theorem nboxK_ap (c : Bool) : nboxK c σ = .ok (.bl (!c)) σ := nr rfl
@[simp] theorem eT_ap (f : Ev → M D) : eT f ρ σ = (f ρ σ).bind tst := nr rfl
@[simp] theorem bAnd_ap (a b : Ev → M Bool) : bAnd a b ρ σ = (a ρ σ).bind (ifK (b ρ) (ret false)) := nr rfl
@[simp] theorem bOr_ap (a b : Ev → M Bool) : bOr a b ρ σ = (a ρ σ).bind (ifK (ret true) (b ρ)) := nr rfl
@[simp] theorem bNot_ap (a : Ev → M Bool) : bNot a ρ σ = (a ρ σ).bind notK := nr rfl
@[simp] theorem eAnd_ap (a b : Ev → M D) : eAnd a b ρ σ = (a ρ σ).bind (testK (ifK (b ρ) (ret (.bl false)))) := nr rfl
@[simp] theorem eOr_ap (a b : Ev → M D) : eOr a b ρ σ = (a ρ σ).bind (testK (ifK (ret (.bl true)) (b ρ))) := nr rfl
@[simp] theorem eNot_ap (a : Ev → M D) : eNot a ρ σ = (a ρ σ).bind (testK nboxK) := nr rfl
@[simp] theorem eIf_ap (t : Ev → M Bool) (a b : Ev → M D) : eIf t a b ρ σ = (t ρ σ).bind (ifK (a ρ) (b ρ)) := nr rfl
@[simp] theorem aNil_ap : aNil ρ σ = .ok [] σ := nr rfl
@[simp] theorem aCons_ap (e : Ev → M D) (r : Ev → M (List D)) : aCons e r ρ σ = (e ρ σ).bind (aConsK (r ρ)) := nr rfl
@[simp] theorem aConsK_ap (m : M (List D)) (x : D) : aConsK m x σ = (m σ).bind (consK x) := nr rfl
@[simp] theorem consK_ap (x : D) (xs : List D) : consK x xs σ = .ok (x :: xs) σ := nr rfl
@[simp] theorem eTup_ap (a : Ev → M (List D)) : eTup a ρ σ = (a ρ σ).bind tupK := nr rfl
@[simp] theorem tupK_0 : tupK [] σ = .ok (.tup []) σ := nr rfl
@[simp] theorem tupK_1 (a : D) : tupK [a] σ = .ok (.tup [a]) σ := nr rfl
@[simp] theorem tupK_2 (a b : D) : tupK [a, b] σ = .ok (.tup [a, b]) σ := nr rfl
@[simp] theorem tupK_3 (a b c : D) : tupK [a, b, c] σ = .ok (.tup [a, b, c]) σ := nr rfl
@[simp] theorem tupK_4 (a b c d : D) : tupK [a, b, c, d] σ = .ok (.tup [a, b, c, d]) σ := nr rfl
@[simp] theorem tupK_5 (a b c d e : D) : tupK [a, b, c, d, e] σ = .ok (.tup [a, b, c, d, e]) σ := nr rfl
@[simp] theorem eLv_ap (a : Ev → M (List D)) : eLv a ρ σ = (a ρ σ).bind lvK := nr rfl
@[simp] theorem eLst_ap (a : Ev → M (List D)) : eLst a ρ σ = (a ρ σ).bind lstK := nr rfl
@[simp] theorem lstK_0 : lstK [] σ = .ok (.ref σ.length) (σ ++ [.lst []]) := nr rfl
/-! operations -/
@[simp] theorem oI_ap (g : Int → Int → Int) (i j : Int) : oI g (.int i) (.int j) σ = .ok (.int (g i j)) σ := nr rfl
@[simp] theorem oB_ap (g : Int → Int → Bool) (i j : Int) : oB g (.int i) (.int j) σ = .ok (.bl (g i j)) σ := nr rfl
theorem oIC_ap {C : Int → Int → Bool} {g : Int → Int → Int} {i j : Int} (h : C i j = true) : oIC C g (.int i) (.int j) σ = .ok (.int (g i j)) σ := by
  show (if C i j = true then ret _ else bad) σ = _; rw [if_pos h]; rfl
@[simp] theorem oDiv_ap (i j : Int) (h : 0 < j) (h2 : j < 1073741824) : oDiv (.int i) (.int j) σ = .ok (.int (i / j)) σ := oIC_ap (by simp [cDiv, h, h2])
@[simp] theorem oMod_ap (i j : Int) (h : 0 < j) : oMod (.int i) (.int j) σ = .ok (.int (i % j)) σ := oIC_ap (by simp [cMod, h])
@[simp] theorem oShr_ap (i j : Int) (h : 0 ≤ j) : oShr (.int i) (.int j) σ = .ok (.int (i / 2 ^ j.toNat)) σ := oIC_ap (by simp [cShr, h])
theorem oPow_ap {i j : Int} (h : cPow i j = true) : oPow (.int i) (.int j) σ = .ok (.int (i ^ j.toNat)) σ := oIC_ap h
@[simp] theorem p12 : oPow (.int 10) (.int 12) σ = .ok (.int 1000000000000) σ := oPow_ap (by simp [cPow])
@[simp] theorem p6 : oPow (.int 10) (.int 6) σ = .ok (.int 1000000) σ := oPow_ap (by simp [cPow])
@[simp] theorem p4 : oPow (.int 10) (.int 4) σ = .ok (.int 10000) σ := oPow_ap (by simp [cPow])
@[simp] theorem p40 : oPow (.int 10) (.int 40) σ = .ok (.int (10 ^ 40)) σ := oPow_ap (by simp [cPow])
@[simp] theorem oNeg_ap (i : Int) : oNeg (.int i) σ = .ok (.int (-i)) σ := nr rfl
@[simp] theorem oAdd_int (i j : Int) : oAdd (.int i) (.int j) σ = .ok (.int (i + j)) σ := nr rfl
theorem oAdd_tup {xs ys : List D} (h : xs.length + ys.length ≤ cap) : oAdd (.tup xs) (.tup ys) σ = .ok (.tup (xs ++ ys)) σ := by show (if _ then _ else _ : M D) σ = _; rw [if_pos h]; rfl
@[simp] theorem oIsN_non (σ : Sto) : oIsN .non .non σ = .ok (.bl true) σ := nr rfl
@[simp] theorem oIsN_bl (b : Bool) : oIsN (.bl b) .non σ = .ok (.bl false) σ := nr rfl
@[simp] theorem oIsN_int (b : Int) : oIsN (.int b) .non σ = .ok (.bl false) σ := nr rfl
@[simp] theorem oIsN_tup (b : List D) : oIsN (.tup b) .non σ = .ok (.bl false) σ := nr rfl
@[simp] theorem oIsN_lst (b : List D) : oIsN (.lst b) .non σ = .ok (.bl false) σ := nr rfl
@[simp] theorem oIsN_str (b : Str) : oIsN (.str b) .non σ = .ok (.bl false) σ := nr rfl
@[simp] theorem oNotN_non (σ : Sto) : oNotN .non .non σ = .ok (.bl false) σ := nr rfl
@[simp] theorem oNotN_int (b : Int) : oNotN (.int b) .non σ = .ok (.bl true) σ := nr rfl
@[simp] theorem oNotN_tup (b : List D) : oNotN (.tup b) .non σ = .ok (.bl true) σ := nr rfl
theorem oEq_of {x y : D} {b : Bool} (h : eqD σ 8 x y = some b) : oEq x y σ = .ok (.bl b) σ := by unfold oEq; rw [h]
theorem oNe_of {x y : D} {b : Bool} (h : eqD σ 8 x y = some b) : oNe x y σ = .ok (.bl (!b)) σ := by unfold oNe; rw [h]
@[simp] theorem oEq_int (i j : Int) : oEq (.int i) (.int j) σ = .ok (.bl (i == j)) σ := oEq_of (by simp [eqD, kd, eqK, eqV])
@[simp] theorem oNe_int (i j : Int) : oNe (.int i) (.int j) σ = .ok (.bl (!(i == j))) σ := oNe_of (by simp [eqD, kd, eqK, eqV])
@[simp] theorem oEq_str (i j : Str) : oEq (.str i) (.str j) σ = .ok (.bl (i == j)) σ := oEq_of (by simp [eqD, kd, eqK, eqV])
@[simp] theorem oNe_bl (i j : Bool) : oNe (.bl i) (.bl j) σ = .ok (.bl (!(i == j))) σ := oNe_of (by simp [eqD, kd, eqK, eqV])
@[simp] theorem oEq_bl (i j : Bool) : oEq (.bl i) (.bl j) σ = .ok (.bl (i == j)) σ := oEq_of (by simp [eqD, kd, eqK, eqV])
/-! places -/
theorem oIx_tup {xs : List D} {k : Int} {d : D} (h : atI xs k = some d) : oIx (.tup xs) (.int k) σ = .ok d σ := by simp [oIx, seqOf, h]
theorem oIx_lst {xs : List D} {k : Int} {d : D} (h : atI xs k = some d) : oIx (.lst xs) (.int k) σ = .ok d σ := by simp [oIx, seqOf, h]
@[simp] theorem ix_t0 (a : D) (r : List D) : oIx (.tup (a :: r)) (.int 0) σ = .ok a σ := oIx_tup (show atI _ ((0 : Nat) : Int) = _ from atI_nat rfl)
@[simp] theorem ix_t1 (a b : D) (r : List D) : oIx (.tup (a :: b :: r)) (.int 1) σ = .ok b σ := oIx_tup (show atI _ ((1 : Nat) : Int) = _ from atI_nat rfl)
@[simp] theorem ix_t2 (a b c : D) (r : List D) : oIx (.tup (a :: b :: c :: r)) (.int 2) σ = .ok c σ := oIx_tup (show atI _ ((2 : Nat) : Int) = _ from atI_nat rfl)
@[simp] theorem ix_t3 (a b c d : D) (r : List D) : oIx (.tup (a :: b :: c :: d :: r)) (.int 3) σ = .ok d σ := oIx_tup (show atI _ ((3 : Nat) : Int) = _ from atI_nat rfl)
@[simp] theorem oLen_tup (xs : List D) : oLen [.tup xs] σ = .ok (.int xs.length) σ := nr rfl
@[simp] theorem oLen_lst (xs : List D) : oLen [.lst xs] σ = .ok (.int xs.length) σ := nr rfl
@[simp] theorem oLen_scr (xs : List Int) : oLen [.scr xs] σ = .ok (.int xs.length) σ := by simp [oLen, seqOf]
@[simp] theorem oTuple_lst (xs : List D) : oTuple [.lst xs] σ = .ok (.tup xs) σ := nr rfl
@[simp] theorem oTuple_tup (xs : List D) : oTuple [.tup xs] σ = .ok (.tup xs) σ := nr rfl
@[simp] theorem eCall_ap (o : List D → M D) (fs : Ev → M (List D)) : eCall o fs ρ σ = (fs ρ σ).bind o := nr rfl
@[simp] theorem eFn_ap (n : Nat) (f : List D → M D) (dds : List D) (fs : Ev → M (List D)) : eFn n f dds fs ρ σ = (fs ρ σ).bind (fnK n f dds) := nr rfl
@[simp] theorem fnK_1 (f : List D → M D) (a : D) : fnK 1 f [] [a] σ = f [a] σ := by unfold fnK; rw [if_pos (by simp)]; simp
@[simp] theorem fnK_2 (f : List D → M D) (a b : D) : fnK 2 f [] [a, b] σ = f [a, b] σ := by unfold fnK; rw [if_pos (by simp)]; simp
@[simp] theorem fnK_3 (f : List D → M D) (a b c : D) : fnK 3 f [] [a, b, c] σ = f [a, b, c] σ := by unfold fnK; rw [if_pos (by simp)]; simp
@[simp] theorem fnK_3d (f : List D → M D) (a b c : D) : fnK 3 f [c] [a, b] σ = f [a, b, c] σ := by unfold fnK; rw [if_pos (by simp)]; simp
@[simp] theorem fnK_4 (f : List D → M D) (a b c d : D) : fnK 4 f [] [a, b, c, d] σ = f [a, b, c, d] σ := by unfold fnK; rw [if_pos (by simp)]; simp
@[simp] theorem fnK_5 (f : List D → M D) (a b c d e : D) : fnK 5 f [] [a, b, c, d, e] σ = f [a, b, c, d, e] σ := by unfold fnK; rw [if_pos (by simp)]; simp
@[simp] theorem fnK_7 (f : List D → M D) (a b c d e g h : D) : fnK 7 f [] [a, b, c, d, e, g, h] σ = f [a, b, c, d, e, g, h] σ := by unfold fnK; rw [if_pos (by simp)]; simp
@[simp] theorem fnK_6 (f : List D → M D) (a b c d e g : D) : fnK 6 f [] [a, b, c, d, e, g] σ = f [a, b, c, d, e, g] σ := by unfold fnK; rw [if_pos (by simp)]; simp
/-! statements -/
@[simp] theorem sNil_ap : sNil ρ σ = .ok (.nx ρ) σ := nr rfl
@[simp] theorem sSeq_ap (g h : Ev → M Fl) : sSeq g h ρ σ = (g ρ σ).bind (seqK h) := nr rfl
@[simp] theorem seqK_nx (h : Ev → M Fl) (ρ : Ev) : seqK h (.nx ρ) σ = h ρ σ := nr rfl
@[simp] theorem seqK_rt (h : Ev → M Fl) (d : D) : seqK h (.rt d) σ = .ok (.rt d) σ := nr rfl
@[simp] theorem seqK_xc (h : Ev → M Fl) (ρ : Ev) (x : Xn) : seqK h (.xc ρ x) σ = .ok (.xc ρ x) σ := nr rfl
@[simp] theorem seqK_bk (h : Ev → M Fl) (ρ : Ev) : seqK h (.bk ρ) σ = .ok (.bk ρ) σ := nr rfl
@[simp] theorem seqK_ct (h : Ev → M Fl) (ρ : Ev) : seqK h (.ct ρ) σ = .ok (.ct ρ) σ := nr rfl
def xsO (ρ : Ev) (k : α → M Fl) : Out α → Out Fl
  | .ok a σ' => k a σ'
  | .ex x σ' => .ok (.xc ρ x) σ'
  | .bad => .bad
@[simp] theorem xs_ap (ρ : Ev) (m : M α) (k : α → M Fl) : xs ρ m k σ = xsO ρ k (m σ) := by unfold xs xsO; cases m σ <;> rfl
@[simp] theorem xsO_ok (ρ : Ev) (k : α → M Fl) (a : α) : xsO ρ k (.ok a σ) = k a σ := nr rfl
@[simp] theorem xsO_ex (ρ : Ev) (k : α → M Fl) (x : Xn) : xsO ρ k (.ex x σ) = .ok (.xc ρ x) σ := nr rfl
@[simp] theorem xsO_bad (ρ : Ev) (k : α → M Fl) : xsO ρ k (.bad : Out α) = .bad := nr rfl
@[simp] theorem sRet_ap (f : Ev → M D) : sRet f ρ σ = xsO ρ retK (f ρ σ) := xs_ap ..
@[simp] theorem retK_ap (d : D) : retK d σ = .ok (.rt d) σ := nr rfl
@[simp] theorem sExp_ap (f : Ev → M D) : sExp f ρ σ = xsO ρ (expK ρ) (f ρ σ) := xs_ap ..
@[simp] theorem expK_ap (d : D) : expK ρ d σ = .ok (.nx ρ) σ := nr rfl
@[simp] theorem sSet_ap (i : Nat) (f : Ev → M D) : sSet i f ρ σ = xsO ρ (setK i ρ) (f ρ σ) := xs_ap ..
@[simp] theorem setK_ap (i : Nat) (d : D) : setK i ρ d σ = .ok (.nx (ρ.set i (some d))) σ := nr rfl
@[simp] theorem sIf_ap (t : Ev → M Bool) (a b : Ev → M Fl) : sIf t a b ρ σ = xsO ρ (ifK (a ρ) (b ρ)) (t ρ σ) := xs_ap ..
@[simp] theorem sAsg_ap (f : Ev → M D) (tg : D → Ev → Option Ev) : sAsg f tg ρ σ = xsO ρ (asgK tg ρ) (f ρ σ) := xs_ap ..
@[simp] theorem asgK_1 (i j k : Nat) (a b c : D) : asgK (tgT 3 (tgCons (tgN i) (tgCons (tgN j) (tgCons (tgN k) tgNil)))) ρ (.tup [a, b, c]) σ = .ok (.nx (((ρ.set i (some a)).set j (some b)).set k (some c))) σ := nr rfl
@[simp] theorem asgK_2 (i j : Nat) (a b : D) : asgK (tgT 2 (tgCons (tgN i) (tgCons (tgN j) tgNil))) ρ (.tup [a, b]) σ = .ok (.nx ((ρ.set i (some a)).set j (some b))) σ := nr rfl
@[simp] theorem sRaise_ap (c : Nat) (fs : Ev → M (List D)) : sRaise c fs ρ σ = xsO ρ (raiseK c ρ) (fs ρ σ) := xs_ap ..
@[simp] theorem raiseK_1 (c : Nat) (d : D) : raiseK c ρ [d] σ = .ok (.xc ρ ⟨c⟩) σ := nr rfl
@[simp] theorem sTry_ap (g : Ev → M Fl) (hs : List Hd) : sTry g hs ρ σ = (g ρ σ).bind (tryK hs) := nr rfl
@[simp] theorem tryK_nx (hs : List Hd) : tryK hs (.nx ρ) σ = .ok (.nx ρ) σ := nr rfl
@[simp] theorem tryK_rt (hs : List Hd) (d : D) : tryK hs (.rt d) σ = .ok (.rt d) σ := nr rfl
@[simp] theorem tryK_xc (hs : List Hd) (x : Xn) : tryK hs (.xc ρ x) σ = handle ρ x hs σ := nr rfl
theorem handle_t {h : Hd} {r : List Hd} {x : Xn} (e : h.t x.cls = some true) : handle ρ x (h :: r) σ = hit h ρ x σ := by unfold handle; rw [e]
@[simp] theorem hit_ap (t : Nat → Option Bool) (g : Ev → M Fl) (x : Xn) : hit ⟨t, none, g⟩ ρ x σ = (g ρ σ).bind noF := nr rfl
@[simp] theorem noF_nx : noF (.nx ρ) σ = .ok (.nx ρ) σ := nr rfl
@[simp] theorem noF_rt (d : D) : noF (.rt d) σ = .ok (.rt d) σ := nr rfl
@[simp] theorem run_ap (n : Nat) (g : Ev → M Fl) (ds : List D) : run n g ds σ = runO (g (ds.map some ++ List.replicate (n - ds.length) none) σ) := nr rfl
@[simp] theorem runO_rt (d : D) : runO (.ok (.rt d) σ) = .ok d σ := nr rfl
@[simp] theorem runO_nx : runO (.ok (.nx ρ) σ) = .ok .non σ := nr rfl
@[simp] theorem runO_xc (x : Xn) : runO (.ok (.xc ρ x) σ) = .ex x σ := nr rfl
@[simp] theorem frz_ap (f : M D) : frz f σ = frzO σ (f σ) := nr rfl
@[simp] theorem eFrz_ap (f : Ev → M D) : eFrz f ρ σ = frzO σ (f ρ σ) := nr rfl
theorem fz_cl {k m : Nat} {σ : Sto} {d : D} (h : cl d = true) : fz k σ m d = some d := by cases m <;> (unfold fz; rw [if_pos h])
/-- data come back as they are -/
theorem frzO_cl {σ' : Sto} {d : D} (h : cl d = true) (ht : σ'.take σ.length = σ) : frzO σ (.ok d σ') = .ok d σ := by
  unfold frzO; dsimp only; rw [if_pos ht, fz_cl h]
@[simp] theorem frzO_ex : frzO σ (.ex x σ) = .ex x σ := by unfold frzO; dsimp only; rw [if_pos List.take_length]
@[simp] theorem frzO_same {d : D} (h : cl d = true) : frzO σ (.ok d σ) = .ok d σ := frzO_cl h List.take_length
/-- a list just made -/
theorem frzO_lst {j j' : Sto} {xs : List D} (h : clL xs = true) : frzO σ (.ok (.ref σ.length) (σ ++ [.lst xs] ++ j)) = .ok (.lst xs) σ := by
  unfold frzO
  dsimp only
  rw [if_pos (by simp)]
  have e : fz σ.length (σ ++ [.lst xs] ++ j) 6 (.ref σ.length) = some (.lst xs) := by
    unfold fz
    rw [if_neg (by simp [cl])]
    dsimp only
    rw [if_neg (Nat.lt_irrefl _)]
    have : (σ ++ [Ob.lst xs] ++ j)[σ.length]? = some (.lst xs) := by simp
    rw [this]
    dsimp only
    have hl : ∀ (ys : List D) (m : Nat), clL ys = true → fzL (fz σ.length (σ ++ [.lst xs] ++ j) m) ys = some ys := by
      intro ys m
      induction ys with
      | nil => intro _; rfl
      | cons y ys ih =>
        intro hc
        have hc' : cl y = true ∧ clL ys = true := by simpa [clL, Bool.and_eq_true] using hc
        unfold fzL
        rw [fz_cl hc'.1, ih hc'.2]
    rw [hl xs 5 h]
    rfl
  rw [e]

@[simp] theorem cl_int (i : Int) : cl (.int i) = true := by simp [cl]
@[simp] theorem cl_bl (i : Bool) : cl (.bl i) = true := by simp [cl]
@[simp] theorem cl_str (i : Str) : cl (.str i) = true := by simp [cl]
@[simp] theorem cl_non : cl .non = true := by simp [cl]
@[simp] theorem cl_tup (xs : List D) : cl (.tup xs) = clL xs := by simp [cl]
@[simp] theorem cl_lst (xs : List D) : cl (.lst xs) = clL xs := by simp [cl]
@[simp] theorem cl_ref (n : Nat) : cl (.ref n) = false := by simp [cl]
@[simp] theorem clL_nil : clL [] = true := by simp [clL]
@[simp] theorem clL_cons (d : D) (ds : List D) : clL (d :: ds) = (cl d && clL ds) := by simp [clL]
theorem clL_all : ∀ {ds : List D}, (∀ d ∈ ds, cl d = true) → clL ds = true
  | [], _ => by simp
  | d :: ds, h => by rw [clL_cons, h d List.mem_cons_self, clL_all fun x hx => h x (List.mem_cons_of_mem _ hx)]; rfl
theorem clL_map {γ : Type} {f : γ → D} {l : List γ} (h : ∀ x, cl (f x) = true) : clL (l.map f) = true := clL_all fun d hd => by obtain ⟨x, _, rfl⟩ := List.mem_map.mp hd; exact h x
@[simp] theorem clL_ints (l : List Int) : clL (l.map D.int) = true := clL_map cl_int
@[simp] theorem clL_app (xs ys : List D) : clL (xs ++ ys) = (clL xs && clL ys) := by
  induction xs with
  | nil => simp
  | cons x xs ih => simp [ih, Bool.and_assoc]
/-! products -/
theorem oMul_ap {i j : Int} (h : cMul i j = true) : oMul (.int i) (.int j) σ = .ok (.int (i * j)) σ := oIC_ap h
theorem cMul_R {i j : Int} (h : -(2 ^ 64) < j) (h2 : j < 2 ^ 64) : cMul i j = true := by simp only [cMul, hide_eq, Bool.or_eq_true, Bool.and_eq_true, decide_eq_true_eq]; exact .inr ⟨h, h2⟩
/-! a place in a written list -/
theorem atI_D {xs : List D} {k : Int} (h0 : 0 ≤ k) (h : k < xs.length) : atI xs k = some (xs.getD k.toNat .non) := by
  obtain ⟨n, rfl⟩ := Int.eq_ofNat_of_zero_le h0
  have hn : n < xs.length := by omega
  refine atI_nat ?_
  show xs[n]? = some (xs.getD n .non)
  rw [List.getD_eq_getElem?_getD, List.getElem?_eq_getElem hn]; rfl
theorem atI_I {is : List Int} {k : Int} (h0 : 0 ≤ k) (h : k < is.length) : atI (is.map D.int) k = some (.int (is.getD k.toNat 0)) := by
  rw [atI_D h0 (by simpa using h)]
  have hn : k.toNat < is.length := by omega
  simp [hn]
@[simp] theorem ixI2 (n a b : Int) : oIx (.lst [.int a, .int b]) (.int (n % 2)) σ = .ok (.int ([a, b].getD (n % 2).toNat 0)) σ := oIx_lst (atI_I (is := [a, b]) (by omega) (by simp; omega))
@[simp] theorem ixI3 (n a b c : Int) : oIx (.lst [.int a, .int b, .int c]) (.int (n % 3)) σ = .ok (.int ([a, b, c].getD (n % 3).toNat 0)) σ := oIx_lst (atI_I (is := [a, b, c]) (by omega) (by simp; omega))
@[simp] theorem ixI4 (n a b c d : Int) : oIx (.lst [.int a, .int b, .int c, .int d]) (.int (n % 4)) σ = .ok (.int ([a, b, c, d].getD (n % 4).toNat 0)) σ := oIx_lst (atI_I (is := [a, b, c, d]) (by omega) (by simp; omega))
@[simp] theorem ixI5 (n a b c d e : Int) : oIx (.lst [.int a, .int b, .int c, .int d, .int e]) (.int (n % 5)) σ = .ok (.int ([a, b, c, d, e].getD (n % 5).toNat 0)) σ := oIx_lst (atI_I (is := [a, b, c, d, e]) (by omega) (by simp; omega))
@[simp] theorem ixI6 (n a b c d e f : Int) : oIx (.lst [.int a, .int b, .int c, .int d, .int e, .int f]) (.int (n % 6)) σ = .ok (.int ([a, b, c, d, e, f].getD (n % 6).toNat 0)) σ := oIx_lst (atI_I (is := [a, b, c, d, e, f]) (by omega) (by simp; omega))
@[simp] theorem ixI7 (n a b c d e f g : Int) : oIx (.lst [.int a, .int b, .int c, .int d, .int e, .int f, .int g]) (.int (n % 7)) σ = .ok (.int ([a, b, c, d, e, f, g].getD (n % 7).toNat 0)) σ := oIx_lst (atI_I (is := [a, b, c, d, e, f, g]) (by omega) (by simp; omega))
@[simp] theorem ixI8 (n a b c d e f g h : Int) : oIx (.lst [.int a, .int b, .int c, .int d, .int e, .int f, .int g, .int h]) (.int (n % 8)) σ = .ok (.int ([a, b, c, d, e, f, g, h].getD (n % 8).toNat 0)) σ := oIx_lst (atI_I (is := [a, b, c, d, e, f, g, h]) (by omega) (by simp; omega))
@[simp] theorem lvK_1 (a : D) : lvK [a] σ = .ok (.lst [a]) σ := nr rfl
@[simp] theorem lvK_0 : lvK [] σ = .ok (.lst []) σ := nr rfl
@[simp] theorem lvK_2 (a b : D) : lvK [a, b] σ = .ok (.lst [a, b]) σ := nr rfl
@[simp] theorem lvK_3 (a b c : D) : lvK [a, b, c] σ = .ok (.lst [a, b, c]) σ := nr rfl
@[simp] theorem lvK_4 (a b c d : D) : lvK [a, b, c, d] σ = .ok (.lst [a, b, c, d]) σ := nr rfl
@[simp] theorem lvK_5 (a b c d e : D) : lvK [a, b, c, d, e] σ = .ok (.lst [a, b, c, d, e]) σ := nr rfl
@[simp] theorem lvK_6 (a b c d e f : D) : lvK [a, b, c, d, e, f] σ = .ok (.lst [a, b, c, d, e, f]) σ := nr rfl
@[simp] theorem lvK_7 (a b c d e f g : D) : lvK [a, b, c, d, e, f, g] σ = .ok (.lst [a, b, c, d, e, f, g]) σ := nr rfl
@[simp] theorem lvK_8 (a b c d e f g h : D) : lvK [a, b, c, d, e, f, g, h] σ = .ok (.lst [a, b, c, d, e, f, g, h]) σ := nr rfl
@[simp] theorem lvK_9 (a b c d e f g h i : D) : lvK [a, b, c, d, e, f, g, h, i] σ = .ok (.lst [a, b, c, d, e, f, g, h, i]) σ := nr rfl
@[simp] theorem lstK_2 (a b : D) : lstK [a, b] σ = .ok (.ref σ.length) (σ ++ [.lst [a, b]]) := nr rfl
/-! a list of the store, the last -/
@[simp] theorem lstAt_end (xs : List D) : lstAt (σ ++ [.lst xs]) σ.length = some xs := by simp [lstAt]
@[simp] theorem set_end (a b : Ob) : (σ ++ [a]).set σ.length b = σ ++ [b] := by
  rw [List.set_append_right _ _ (Nat.le_refl _)]; simp
@[simp] theorem eMeth_ap (o : D → List D → M D) (f : Ev → M D) (fs : Ev → M (List D)) : eMeth o f fs ρ σ = (f ρ σ).bind (methK o (fs ρ)) := nr rfl
theorem methK_ap {o : D → List D → M D} {m : M (List D)} {x : D} {xs : List D} (h : lsOf σ x = some xs) : methK o m x σ = (m σ).bind (o x) := by unfold methK; rw [h]; rfl
@[simp] theorem methK_end (o : D → List D → M D) (m : M (List D)) (xs : List D) : methK o m (.ref σ.length) (σ ++ [.lst xs]) = (m (σ ++ [.lst xs])).bind (o (.ref σ.length)) := methK_ap (xs := xs) (by simp [lsOf])
@[simp] theorem methK_lst (o : D → List D → M D) (m : M (List D)) (xs : List D) : methK o m (.lst xs) σ = (m σ).bind (o (.lst xs)) := methK_ap rfl
theorem append_end {xs : List D} {d : D} (h : xs.length < 1000) : oAppend (.ref σ.length) [d] (σ ++ [.lst xs]) = .ok .non (σ ++ [.lst (xs ++ [d])]) := by
  unfold oAppend; simp only [lstAt_end]; rw [if_pos (show xs.length < cap from h), set_end]
@[simp] theorem seqOf_end (xs : List D) : seqOf (σ ++ [.lst xs]) (.ref σ.length) = some xs := lstAt_end xs
@[simp] theorem seqOf_lst (xs : List D) : seqOf σ (.lst xs) = some xs := nr rfl
@[simp] theorem seqOf_tup (xs : List D) : seqOf σ (.tup xs) = some xs := nr rfl
/-! sources and loops -/
@[simp] theorem srcS_ap (f : Ev → M D) : srcS f ρ σ = (f ρ σ).bind seqK2 := nr rfl
@[simp] theorem seqK2_tup (ds : List D) : seqK2 (.tup ds) σ = .ok (.seq ds) σ := nr rfl
@[simp] theorem seqK2_lst (ds : List D) : seqK2 (.lst ds) σ = .ok (.seq ds) σ := nr rfl
@[simp] theorem srcR_ap (f : Ev → M D) : srcR f ρ σ = (f ρ σ).bind rngK := nr rfl
theorem rngK_ap {j : Int} (h : -(2 ^ 62) ≤ j) (h2 : j < 2 ^ 62) : rngK (.int j) σ = .ok (.seq (rangeD j.toNat)) σ := by
  unfold rngK; dsimp only; rw [if_pos (by simp only [small62, hide_eq, Bool.and_eq_true, decide_eq_true_eq]; exact ⟨h, h2⟩)]
@[simp] theorem sFor_ap (src : Ev → M Src) (tg : D → Ev → Option Ev) (body : Ev → M Fl) : sFor src tg body ρ σ = xsO ρ (forK tg body ρ) (src ρ σ) := xs_ap ..
@[simp] theorem forK_seq (tg : D → Ev → Option Ev) (body : Ev → M Fl) (ds : List D) : forK tg body ρ (.seq ds) σ = loop tg body ds ρ σ := nr rfl
@[simp] theorem loop_nil (tg : D → Ev → Option Ev) (body : Ev → M Fl) : loop tg body [] ρ σ = .ok (.nx ρ) σ := nr rfl
theorem loop_cons {tg : D → Ev → Option Ev} {body : Ev → M Fl} {d : D} {ds : List D} {ρ1 : Ev} (h : tg d ρ = some ρ1) : loop tg body (d :: ds) ρ σ = (body ρ1 σ).bind (loopK (loop tg body ds)) := by
  show (match tg d ρ with | none => bad | some ρ1 => bnd (body ρ1) (loopK (loop tg body ds))) σ = _
  rw [h]; rfl
@[simp] theorem loop_tgN (i : Nat) (body : Ev → M Fl) (d : D) (ds : List D) : loop (tgN i) body (d :: ds) ρ σ = (body (ρ.set i (some d)) σ).bind (loopK (loop (tgN i) body ds)) := loop_cons rfl
@[simp] theorem loopK_nx (k : Ev → M Fl) : loopK k (.nx ρ) σ = k ρ σ := nr rfl
@[simp] theorem loopK_ct (k : Ev → M Fl) : loopK k (.ct ρ) σ = k ρ σ := nr rfl
@[simp] theorem loopK_rt (k : Ev → M Fl) (d : D) : loopK k (.rt d) σ = .ok (.rt d) σ := nr rfl
@[simp] theorem loopK_xc (k : Ev → M Fl) (x : Xn) : loopK k (.xc ρ x) σ = .ok (.xc ρ x) σ := nr rfl
@[simp] theorem loopK_bk (k : Ev → M Fl) : loopK k (.bk ρ) σ = .ok (.nx ρ) σ := nr rfl
theorem rangeD_eq (n : Nat) : rangeD n = (List.range' 0 n).map fun (k : Nat) => D.int k := by unfold rangeD; rw [List.range_eq_range']
/-! a comprehension whose parts change nothing -/
theorem nox_ok {m : M α} {a : α} {σ' : Sto} (h : m σ = .ok a σ') : nox m σ = .ok a σ' := by unfold nox; rw [h]
theorem lc_go {fi : Ev → M Bool} {fe : Ev → M D} {ds : List D} {rest : Ev} {σ0 : Sto} (y : D → D) (p : D → Bool)
    (step : ∀ d ∈ ds, ∀ j, fi (some d :: rest) (σ0 ++ j) = .ok (p d) (σ0 ++ j) ∧ (p d = true → fe (some d :: rest) (σ0 ++ j) = .ok (y d) (σ0 ++ j))) (hl : ds.length ≤ 1000) :
    ∀ (k i : Nat) (o : Option D) (ys : List D), ds.length < k + i → i ≤ ds.length → ys.length ≤ i →
      lcLoop (.seq ds) σ0.length (tgN 0) fi fe k i (o :: rest) (σ0 ++ [.lst ys]) = .ok () (σ0 ++ [.lst (ys ++ ((ds.drop i).filter p).map y)]) := by
  intro k
  induction k with
  | zero => intro i o ys h1 h2; omega
  | succ k ih =>
    intro i o ys h1 h2 hy
    unfold lcLoop
    show (match some ds[i]? with | none => _ | some none => _ | some (some d) => _) = _
    cases e : ds[i]? with
    | none =>
      have hi : ds.length ≤ i := List.getElem?_eq_none_iff.mp e
      rw [List.drop_eq_nil_of_le hi]; simp
    | some d =>
      obtain ⟨hi, ed⟩ := List.getElem?_eq_some_iff.mp e
      have hd : ds.drop i = d :: ds.drop (i + 1) := by rw [← ed]; exact List.drop_eq_getElem_cons hi
      obtain ⟨s1, s2⟩ := step d (by rw [← ed]; exact List.getElem_mem hi) [.lst ys]
      show bnd (nox (fi (some d :: rest))) _ _ = _
      rw [bnd_ap, nox_ok s1, bind_ok]
      dsimp only [List.set]
      by_cases hp : p d = true
      · rw [hp, if_pos rfl, bnd_ap, nox_ok (s2 hp), bind_ok, bnd_ap, append_end (by omega), bind_ok, ih (i + 1) (some d) (ys ++ [y d]) (by omega) (by omega) (by simp; omega), hd, List.filter_cons, if_pos hp]
        simp
      · rw [if_neg hp, ih (i + 1) (some d) ys (by omega) (by omega) (by omega), hd, List.filter_cons, if_neg hp]
theorem lc_ok {src : Ev → M Src} {ix : List Nat} {fi : Ev → M Bool} {fe : Ev → M D} {ds : List D} (y : D → D) (p : D → Bool) (hs : src ρ σ = .ok (.seq ds) σ) (hl : ds.length ≤ 1000)
    (step : ∀ d ∈ ds, ∀ j, fi (some d :: (ix.map fun i => (ρ[i]?).getD none)) (σ ++ j) = .ok (p d) (σ ++ j) ∧ (p d = true → fe (some d :: (ix.map fun i => (ρ[i]?).getD none)) (σ ++ j) = .ok (y d) (σ ++ j))) (hc : ∀ d ∈ ds, p d = true → cl (y d) = true) :
    eFrz (eLC src ix (tgN 0) fi fe) ρ σ = .ok (.lst ((ds.filter p).map y)) σ := by
  show frzO σ (eLC src ix (tgN 0) fi fe ρ σ) = _
  have e : eLC src ix (tgN 0) fi fe ρ σ = .ok (.ref σ.length) (σ ++ [.lst ((ds.filter p).map y)]) := by
    show bnd (src ρ) (lcK (tgN 0) fi fe (blkEv ix ρ)) σ = _
    rw [bnd_ap, hs, bind_ok]
    show bnd (lcLoop (.seq ds) σ.length (tgN 0) fi fe 1001 0 (none :: (ix.map fun i => (ρ[i]?).getD none))) _ (σ ++ [.lst []]) = _
    rw [bnd_ap, lc_go y p step hl 1001 0 none [] (by omega) (by omega) (by simp), bind_ok]
    simp
  rw [e]
  have := frzO_lst (σ := σ) (j := []) (j' := []) (xs := (ds.filter p).map y) (clL_all fun d hd => by obtain ⟨x, hx, rfl⟩ := List.mem_map.mp hd; obtain ⟨hx1, hx2⟩ := List.mem_filter.mp hx; exact hc x hx1 hx2)
  simpa using this
/-- no filter -/
theorem lc_map {src : Ev → M Src} {ix : List Nat} {fe : Ev → M D} {ds : List D} (y : D → D) (hs : src ρ σ = .ok (.seq ds) σ) (hl : ds.length ≤ 1000)
    (step : ∀ d ∈ ds, ∀ j, fe (some d :: (ix.map fun i => (ρ[i]?).getD none)) (σ ++ j) = .ok (y d) (σ ++ j)) (hc : ∀ d ∈ ds, cl (y d) = true) :
    eFrz (eLC src ix (tgN 0) bTrue fe) ρ σ = .ok (.lst (ds.map y)) σ := by
  have := lc_ok (p := fun _ => true) y (ix := ix) (fi := bTrue) hs hl (fun d hd j => ⟨rfl, fun _ => step d hd j⟩) (fun d hd _ => hc d hd)
  rw [show List.filter (fun _ => true) ds = ds from List.filter_eq_self.mpr fun _ _ => rfl] at this
  exact this
end
end L4

/-! More reckoning. -/
namespace L4
open PySem L2
section
variable {α β : Type} {ρ : Ev} {σ : Sto}
@[simp] theorem seqOf_scr (ns : List Int) : seqOf σ (.scr ns) = some (ns.map D.int) := nr rfl
theorem oIx_scr {ns : List Int} {k : Int} (h0 : 0 ≤ k) (h : k < ns.length) : oIx (.scr ns) (.int k) σ = .ok (.int (ns.getD k.toNat 0)) σ := by
  simp only [oIx, seqOf_scr, atI_I h0 h]
@[simp] theorem oIsB_int (c : BT) (i : Int) : oIsB c (.int i) σ = .ok (.bl (match c with | .int => true | _ => false)) σ := nr rfl
@[simp] theorem oIsB_bl (c : BT) (i : Bool) : oIsB c (.bl i) σ = .ok (.bl (match c with | .int => true | .bool => true | _ => false)) σ := nr rfl
@[simp] theorem oIsB_tup (xs : List D) : oIsB .tuple (.tup xs) σ = .ok (.bl true) σ := nr rfl
@[simp] theorem eChain_ap (o o' : D → D → M D) (a b c : Ev → M D) : eChain o o' a b c ρ σ = (a ρ σ).bind (chain1 o o' (b ρ) (c ρ)) := nr rfl
/-- equality of a thing with itself -/
def pl : Nat → D → Bool
  | _, .non => true
  | _, .bl _ => true
  | _, .int _ => true
  | _, .str _ => true
  | n + 1, .tup xs => xs.all (pl n)
  | n + 1, .lst xs => xs.all (pl n)
  | _, _ => false
/-! a list in the store, set at a place -/
@[simp] theorem sSetL_ap (f fo fi : Ev → M D) : sSetL f fo fi ρ σ = xsO ρ (setL1 ρ fo fi) (f ρ σ) := xs_ap ..
@[simp] theorem chain1_ap (o o' : D → D → M D) (b c : M D) (x : D) : chain1 o o' b c x σ = (b σ).bind (chainB o o' c x) := nr rfl
@[simp] theorem chainB_ap (o o' : D → D → M D) (c : M D) (x y : D) : chainB o o' c x y σ = (o x y σ).bind (chain2 o' c y) := nr rfl
@[simp] theorem chain2_ap (o' : D → D → M D) (c : M D) (y : D) (b : Bool) : chain2 o' c y (.bl b) σ = ifK (bnd c (o' y)) (ret (.bl false)) b σ := nr rfl
@[simp] theorem setL1_ap (fo fi : Ev → M D) (d : D) : setL1 ρ fo fi d σ = xsO ρ (setL2 ρ fi d) (fo ρ σ) := xs_ap ..
@[simp] theorem setL2_ap (fi : Ev → M D) (d x : D) : setL2 ρ fi d x σ = xsO ρ (setL3 ρ d x) (fi ρ σ) := xs_ap ..
@[simp] theorem setL3_0 (d a : D) (r : List D) : setL3 ρ d (.ref σ.length) (.int 0) (σ ++ [.lst (a :: r)]) = .ok (.nx ρ) (σ ++ [.lst (d :: r)]) := by
  have : oSetL (.ref σ.length) (.int 0) d (σ ++ [.lst (a :: r)]) = .ok () (σ ++ [.lst (d :: r)]) := by
    simp only [oSetL, lstAt_end]
    rw [show ixN (a :: r).length 0 = some 0 by simp [ixN]]
    simp
  unfold setL3; rw [this]
@[simp] theorem setL3_1 (d a b : D) (r : List D) : setL3 ρ d (.ref σ.length) (.int 1) (σ ++ [.lst (a :: b :: r)]) = .ok (.nx ρ) (σ ++ [.lst (a :: d :: r)]) := by
  have : oSetL (.ref σ.length) (.int 1) d (σ ++ [.lst (a :: b :: r)]) = .ok () (σ ++ [.lst (a :: d :: r)]) := by
    simp only [oSetL, lstAt_end]
    rw [show ixN (a :: b :: r).length 1 = some 1 by simp [ixN]; omega]
    simp
  unfold setL3; rw [this]
theorem oIx_end {xs : List D} {k : Int} {d : D} (h : atI xs k = some d) : oIx (.ref σ.length) (.int k) (σ ++ [.lst xs]) = .ok d (σ ++ [.lst xs]) := by simp [oIx, seqOf_end, h]
@[simp] theorem ix_e0 (a : D) (r : List D) : oIx (.ref σ.length) (.int 0) (σ ++ [.lst (a :: r)]) = .ok a (σ ++ [.lst (a :: r)]) := oIx_end (show atI _ ((0 : Nat) : Int) = _ from atI_nat rfl)
@[simp] theorem ix_e1 (a b : D) (r : List D) : oIx (.ref σ.length) (.int 1) (σ ++ [.lst (a :: b :: r)]) = .ok b (σ ++ [.lst (a :: b :: r)]) := oIx_end (show atI _ ((1 : Nat) : Int) = _ from atI_nat rfl)
theorem frzO_end {a : Ob} {d : D} (h : cl d = true) : frzO σ (.ok d (σ ++ [a])) = .ok d σ := frzO_cl h (by simp)
@[simp] theorem blsOf_map {γ : Type} (f : γ → Bool) (l : List γ) : blsOf (l.map fun x => D.bl (f x)) = some (l.map f) := by
  induction l with
  | nil => rfl
  | cons x l ih => simp [blsOf, ih]
@[simp] theorem intsOf_map (l : List Int) : intsOf (l.map D.int) = some l := by
  induction l with
  | nil => rfl
  | cons x l ih => simp [intsOf, ih]
theorem oAll_map {γ : Type} {f : γ → Bool} {l : List γ} : oAll [.lst (l.map fun x => D.bl (f x))] σ = .ok (.bl (l.all f)) σ := by
  simp only [oAll, seqOf_lst, Option.bind_some, blsOf_map]
  simp [List.all_map, Function.comp_def]
end
end L4

/-! Reckoning with instances. -/
namespace L4
open PySem L2
section
variable {ρ : Ev} {σ : Sto}
@[simp] theorem eMake_ap (c n : Nat) (fn : List D → M D) (fs : Ev → M (List D)) : eMake c n fn fs ρ σ = (fs ρ σ).bind (makeK c n fn) := nr rfl
theorem makeK_ap {c n : Nat} {fn : List D → M D} {ds : List D} (h : ds.length + 1 = n) : makeK c n fn ds σ = noneO σ.length (fn (.ref σ.length :: ds) (σ ++ [.ins c []])) := by unfold makeK; rw [if_pos h]
@[simp] theorem makeK_1 (c : Nat) (fn : List D → M D) (a : D) : makeK c 2 fn [a] σ = noneO σ.length (fn [.ref σ.length, a] (σ ++ [.ins c []])) := makeK_ap rfl
@[simp] theorem makeK_2 (c : Nat) (fn : List D → M D) (a b : D) : makeK c 3 fn [a, b] σ = noneO σ.length (fn [.ref σ.length, a, b] (σ ++ [.ins c []])) := makeK_ap rfl
@[simp] theorem makeK_3 (c : Nat) (fn : List D → M D) (a b d : D) : makeK c 4 fn [a, b, d] σ = noneO σ.length (fn [.ref σ.length, a, b, d] (σ ++ [.ins c []])) := makeK_ap rfl
@[simp] theorem makeK_5 (c : Nat) (fn : List D → M D) (a b d e f : D) : makeK c 6 fn [a, b, d, e, f] σ = noneO σ.length (fn [.ref σ.length, a, b, d, e, f] (σ ++ [.ins c []])) := makeK_ap rfl
@[simp] theorem noneO_ok (n : Nat) : noneO n (.ok .non σ) = .ok (.ref n) σ := nr rfl
@[simp] theorem sPut_ap (cs : List Nat) (f : Str) (fv fo : Ev → M D) : sPut cs f fv fo ρ σ = xsO ρ (putK1 ρ cs f fo) (fv ρ σ) := xs_ap ..
@[simp] theorem putK1_ap (cs : List Nat) (f : Str) (fo : Ev → M D) (d : D) : putK1 ρ cs f fo d σ = xsO ρ (putK2 ρ cs f d) (fo ρ σ) := xs_ap ..
theorem putK2_end {cs : List Nat} {f : Str} {d : D} {c : Nat} {fs : List (Str × D)} (h : cs.contains c = true) (hl : fs.length < 1000) : putK2 ρ cs f d (.ref σ.length) (σ ++ [.ins c fs]) = .ok (.nx ρ) (σ ++ [.ins c (putD f d fs)]) := by
  have e : oPut cs f d (.ref σ.length) (σ ++ [.ins c fs]) = .ok () (σ ++ [.ins c (putD f d fs)]) := by
    have : (σ ++ [Ob.ins c fs])[σ.length]? = some (.ins c fs) := by simp
    unfold oPut; simp only [this]; rw [if_pos (by rw [h]; simpa using hl)]; simp
  unfold putK2; rw [e]
theorem insOf_obj {c : Nat} {ns : List Str} {ds : List D} (h : ns.length = ds.length) : insOf σ (.obj c ns ds) = some (c, ns.zip ds) := by unfold insOf; dsimp only; rw [if_pos h]
theorem oFld_ap {cs : List Nat} {f : Str} {x d : D} {c : Nat} {fs : List (Str × D)} (h : insOf σ x = some (c, fs)) (hc : cs.contains c = true) (hl : fs.lookup f = some d) : oFld cs f x σ = .ok d σ := by
  unfold oFld; rw [h]; dsimp only; rw [if_pos hc, hl]
@[simp] theorem eMth_ap (tb : Mt) (n : Nat) (m : Str) (f : Ev → M D) (fs : Ev → M (List D)) : eMth tb n m f fs ρ σ = (f ρ σ).bind (mthK tb n m (fs ρ)) := nr rfl
theorem mthK_ap {tb : Mt} {n : Nat} {m : Str} {fs : M (List D)} {x : D} {c : Nat} {gs : List (Str × D)} {fn : List D → M D} (h : insOf σ x = some (c, gs)) (ht : lkM tb c = some fn) (hl : gs.lookup m = none) : mthK tb n m fs x σ = (fs σ).bind (mthK2 n fn x) := by
  unfold mthK; rw [h]; dsimp only; rw [ht, hl]; rfl
theorem mthK2_ap {n : Nat} {fn : List D → M D} {x : D} {ds : List D} (h : ds.length + 1 = n) : mthK2 n fn x ds σ = fn (x :: ds) σ := by unfold mthK2; rw [if_pos h]
@[simp] theorem mthK2_0 (fn : List D → M D) (x : D) : mthK2 1 fn x [] σ = fn [x] σ := mthK2_ap rfl
@[simp] theorem mthK2_1 (fn : List D → M D) (x a : D) : mthK2 2 fn x [a] σ = fn [x, a] σ := mthK2_ap rfl
@[simp] theorem mthK2_2 (fn : List D → M D) (x a b : D) : mthK2 3 fn x [a, b] σ = fn [x, a, b] σ := mthK2_ap rfl
@[simp] theorem mthK2_4 (fn : List D → M D) (x a b c d : D) : mthK2 5 fn x [a, b, c, d] σ = fn [x, a, b, c, d] σ := mthK2_ap rfl
/-- an instance just made, nobody changes it any more -/
theorem frzO_ins {c : Nat} {fs : List (Str × D)} (h : clL (fs.map (·.2)) = true) : frzO σ (.ok (.ref σ.length) (σ ++ [.ins c fs])) = .ok (.obj c (fs.map (·.1)) (fs.map (·.2))) σ := by
  unfold frzO
  dsimp only
  rw [if_pos (by simp)]
  have e : fz σ.length (σ ++ [.ins c fs]) 6 (.ref σ.length) = some (.obj c (fs.map (·.1)) (fs.map (·.2))) := by
    unfold fz
    rw [if_neg (by simp)]
    dsimp only
    rw [if_neg (Nat.lt_irrefl _)]
    have : (σ ++ [Ob.ins c fs])[σ.length]? = some (.ins c fs) := by simp
    rw [this]
    dsimp only
    have hl : ∀ (ys : List D) (m : Nat), clL ys = true → fzL (fz σ.length (σ ++ [.ins c fs]) m) ys = some ys := by
      intro ys m
      induction ys with
      | nil => intro _; rfl
      | cons y ys ih =>
        intro hc
        have hc' : cl y = true ∧ clL ys = true := by simpa [clL, Bool.and_eq_true] using hc
        unfold fzL
        rw [fz_cl hc'.1, ih hc'.2]
    rw [hl _ 5 h]
    rfl
  rw [e]
@[simp] theorem cl_obj (c : Nat) (ns : List Str) (ds : List D) : cl (.obj c ns ds) = clL ds := by simp [cl]
@[simp] theorem oMin2_ap (i j : Int) : oMin2 [.int i, .int j] σ = .ok (.int (min i j)) σ := nr rfl
@[simp] theorem oMax2_ap (i j : Int) : oMax2 [.int i, .int j] σ = .ok (.int (max i j)) σ := nr rfl
@[simp] theorem oIsT_bl (n b k : Bool) : oIsT n (.bl b) (.bl k) σ = .ok (.bl (if n then !(b == k) else b == k)) σ := nr rfl
@[simp] theorem oIsB_str (i : Str) : oIsB .str (.str i) σ = .ok (.bl true) σ := nr rfl
@[simp] theorem oIsB_non (c : BT) : oIsB c .non σ = .ok (.bl false) σ := by cases c <;> rfl
end
end L4

/-! isinstance of a caught exception. -/
namespace L4
open PySem PySem.Spec PySem.Calls PyProof.Rows PySem.Builtin PySem.Builtin.ObjectAttr PySem.Builtin.Getset_descriptor L2
/-- what is known of a class of exceptions -/
structure ExK (K : PySem.W.Frag) (C : Addr) : Prop where
  g : PySem.W.findIn K (.ref C) "__getattribute__" = some (some (.builtin "BaseException.__getattribute__"))
  g2 : PySem.W.findIn K (.ref C) "__getattr__" = some none
  mb : PySem.W.mroIn K C (.type "BaseException") = some true
  d : PySem.W.hasDictIn K C = true
  a : PySem.W.findIn K (.ref C) "__class__" = some (some (.builtin "object.__class__"))
  n : PySem.W.specialIn K (.builtin "object.__class__") "__get__" = some (some (.builtin "getset_descriptor.__get__"))
  t : PySem.W.takesIn K (.builtin "object.__class__") = some true
  m : PySem.W.mroIn K C (.type "object") = some true
section
variable {prog : Program} {w : World} {A : Around} {E : Value → Shared → Prop} {s : Shared} {K : PySem.W.Frag} {C ea : Addr} {hp : Heap} {Mo : Model}
theorem exc_ty (p : ExcAt C ea hp) : PySem.W.Looks Mo hp (typeOf (.ref ea)) (.ref C) := by
  obtain ⟨o, h1, h2⟩ := p
  rw [← h2]; exact (PySem.W.Looks.ld h1).andThen .now
theorem exc_find (Z : ExK K C) (X : K.In hp) : PySem.W.Looks Mo hp (find (.ref ea) (.ref C) "__class__") (.bind (.builtin "getset_descriptor.__get__") (.builtin "object.__class__")) := by
  have l3 : PySem.W.Looks Mo hp (dataDescriptor? (some (.builtin "object.__class__")) (some (.builtin "getset_descriptor.__get__"))) (some (.builtin "getset_descriptor.__get__", .builtin "object.__class__")) := (PySem.W.looks_takesIn X Z.t).andThen .now
  exact (PySem.W.looks_findIn X Z.a).andThen ((PySem.W.looks_specialIn X Z.n).andThen (l3.andThen (PySem.W.Looks.tag .now)))
theorem exc_get {tp : Value} {R : Result → Shared → Prop} (Z : ExK K C) (X : K.In s.heap) (p : ExcAt C ea s.heap) (h : R (.ok (.ret (.ref C))) s) : codeAny (model prog w) A (.call (.builtin "getset_descriptor.__get__") ⟨[.builtin "object.__class__", .ref ea, tp], []⟩) R s := by
  obtain ⟨hh, gl, dr, tt, os⟩ := s
  have l0 := exc_ty (Mo := model prog w) p
  have l1 := PySem.W.looks_mroIn (M := model prog w) X Z.m
  refine codeAny_call_builtin PySem.W.KF.slot_gs.plain PySem.W.KF.entry_gs (PySem.W.KF.slot_gs.check _ _ _ _ _ _ _ _ PySem.W.KF.type_class (PySem.W.KF.args_gs _ _ _) ?_)
  unfold Builtin.«getset_descriptor.__get__» descrGet; rw [PySem.W.dga_obj]
  refine wpAny_bind (wpAny_pure ?_); unfold descrGetter descrCheckInstance descrNameAndClass isInstance; simp only [PySem.W.KF.owner_class]
  repeat lk
  refine ⟨Code.quiet_builtin _ (by decide +kernel), codeAny_builtin PySem.W.KF.entry_class ?_⟩; unfold Builtin.«object.__class__» shownTypeOf
  repeat lk
  exact h
theorem exc_class {Q : Option Value → Shared → Prop} (Z : ExK K C) (X : K.In s.heap) (p : ExcAt C ea s.heap) (h : Q (some (.ref C)) { s with toks := s.toks + 1 }) : wpAny (model prog w) A (getAttr? (.ref ea) "__class__") Q E s := by
  obtain ⟨hh, gl, dr, tt, os⟩ := s
  have l0 := exc_ty (Mo := model prog w) p
  have l1 := PySem.W.looks_findIn (M := model prog w) X Z.g
  have l2 := PySem.W.looks_findIn (M := model prog w) X Z.g2
  have l3 := exc_find (ea := ea) (Mo := model prog w) Z X
  have l4 := PySem.W.looks_mroIn (M := model prog w) X Z.mb
  have f3 := PySem.F.excAttr_ValueError.ga.bind (.ref ea)
  unfold getAttr? getAttrBy? getAttrBy; refine wpAny_bind (wpAny_mkText (wpAny_bind (wpAny_attempt (wpAny_holding (wpAny_bind (l0.at (wpAny_bind (l1.at ?_))))))))
  show wpAny _ _ (getAttrByItsOwn _ _ _ _ _ _) _ _ _
  unfold getAttrByItsOwn hookBefore callGetattribute
  repeat (any_goals (first | assumption | (with_reducible refine PySem.W.Looks.at (by assumption) ?_) | wp_step))
  refine codeAny_call_builtin PySem.F.excAttr_ValueError.ga.plain PySem.F.entry_bexc_ga ?_
  have hknd : builtinKind "BaseException.__getattribute__" = some .slot := by decide +kernel
  have hsp : splitId "BaseException.__getattribute__" = some ("BaseException", "__getattribute__") := by decide +kernel
  have ha := PySem.F.args_bexc_ga (.ref ea) (.str "__class__" tt)
  simp only [List.cons_append, List.nil_append, checkBuiltinCall, hknd, hsp]; refine wpAny_bind ?_; unfold isInstance
  repeat (any_goals (first | assumption | (with_reducible refine PySem.W.Looks.at (by assumption) ?_) | wp_step))
  refine exc_get Z X p ?_
  exact wpAny_pure (PySem.W.handed_on rfl (wpAny_pure h))
theorem ExcAtD.plain {dd : Option Addr} (p : ExcAtD C dd ea hp) : ExcAt C ea hp := let ⟨o, h1, h2, _⟩ := p; ⟨o, h1, h2⟩
theorem kitx_exc {dd : Option Addr} (Z : ExK K C) : PySem.W.KitX K (.ref ea) (.ref C) (ExcAtD C dd ea) where
  ty := fun _ _ _ p => exc_ty p.plain
  it := fun _ _ X _ => by
    obtain ⟨cd, hcd, _⟩ := PySem.W.any_some Z.d
    unfold PySem.W.clsIn at hcd
    split at hcd
    · rename_i ho
      intro A' Q' E' s' k q
      unfold isType loadHead; exact wpAny_bind (wpAny_loadPart (k _ _ (X _ _ ho)) (wpAny_pure q))
    · cases hcd
  ne := fun h tp dd its n sl X htp => by
    obtain ⟨cd, hcd, _⟩ := PySem.W.any_some Z.d
    refine Bool.eq_false_iff.mpr fun q => ?_
    have e : C = tp := Value.ref.inj (beq_iff_eq.mp q)
    subst e
    unfold PySem.W.clsIn at hcd
    split at hcd
    · rename_i ho; have z := (X _ _ ho).symm.trans htp; cases z
    · cases hcd
  ca := fun X p k => exc_class Z X p.plain k
end
def oIsX (t : Nat → Option Bool) (x : D) : M D := fun σ => match x with
  | .exn c => (match t c with | some b => .ok (.bl b) σ | none => .bad)
  | _ => .bad
section
variable {T : Tb} {X : Cx}
def rIsX (K : PySem.W.Frag) (vc : V) (cv : Value) : List V → Hp → VK → Prop := fun xs H Q => ∃ a C dd b, xs = [.ref a, vc] ∧ H a = some (.ext (ExcAtD C dd a)) ∧ ExK K C ∧ PySem.W.kitOne K (.ref C) cv = some b ∧ Q (.bl b) H
theorem call_isX {vc : V} {cv : Value} (hv : ∀ u, RelV vc u → u = cv) : CallR X (.builtin "isinstance") (rIsX X.K vc cv) := by
  intro pins s st H xs us Q I r h
  obtain ⟨a, C, dd, b, rfl, ea, Z, e, q⟩ := h
  obtain ⟨u, u2, rfl, ru, ru2⟩ := vals2 r
  cases hv _ ru2
  cases (show u = Value.ref a from ru)
  exact PySem.W.kia_one (kitx_exc Z) I.kIn (I.hok a _ ea).1 e (fun z => nomatch z) fun tk => ⟨.bl b, H, I.tok _, rfl, q⟩
/-- the name of a class, own or built in -/
inductive ClsV (X : Cx) (y : Str) : V → Value → Prop where
  | own {a : Addr} (h : X.mg y = some (.ref a)) : ClsV X y (.ref a) (.ref a)
  | bt {n : String} (h : X.mg y = none) (hv : bootBuiltins y = some (.type n)) (hn : y ≠ "__name__") : ClsV X y (.ty n) (.type n)
theorem ClsV.pe {y : Str} {vc : V} {cv : Value} {p2 : Pos} (h : ClsV X y vc cv) (hg2 : Gl X y) (hd2 : (y == ("__debug__" : Str)) = false) : PE X (.Name y p2) (tC vc) := by
  cases h with
  | own h => exact pe_glob hg2 h rfl hd2
  | bt h hv hn => exact pe_bltn hg2 h hv rfl hn hd2
theorem ClsV.rel {y : Str} {vc : V} {cv : Value} (h : ClsV X y vc cv) : ∀ u, RelV vc u → u = cv := by
  cases h with
  | own h => exact fun u q => q
  | bt h hv hn => exact fun u q => q
theorem fe_isX {y : Str} {vc : V} {cv : Value} {t : Nat → Option Bool} {e : Expr} {f : Ev → M D} {p p2 pos : Pos} (he : FE T X e f) (hg : Gl X "isinstance") (hm : X.mg "isinstance" = none) (hg2 : Gl X y) (hd2 : (y == ("__debug__" : Str)) = false) (hc : ClsV X y vc cv)
    (ht : ∀ c b, t c = some b → ExK X.K (T.ca c) ∧ PySem.W.kitOne X.K (.ref (T.ca c)) cv = some b)
    (hs : starEach [e, .Name y p2] X.env = (false, eval e X.env) :: starEach [.Name y p2] X.env := by rfl) (hpl : (backTo pos (starEach [.Name y p2] X.env)).any (·.1) = false := by rfl) :
    FE T X (.Call (.Name "isinstance" p) [e, .Name y p2] [] pos) (eUn (oIsX t) f) := by
  intro pins s st H Q I h
  refine pe_callB (call_isX hc.rel) hg hm boot_isinstance (pa_cons he (pa_cons (hc.pe hg2 hd2) pa_nil) hs) (by decide) (by decide) hs hpl pins s st H Q I ?_
  obtain ⟨μ, ρ, σ, hE, hr, hp⟩ := h
  refine ⟨μ, ρ, σ, hE, hr, hp.bind fun x σ1 μ1 v H1 _ e1 r1 p1 q1 => ?_⟩
  unfold oIsX at q1
  cases x with
  | exn c =>
    dsimp only at q1
    cases et : t c with
    | none => rw [et] at q1; exact q1.elim
    | some b =>
      rw [et] at q1
      rw [Rep] at p1
      obtain ⟨a, dd, rfl, _, h2, _⟩ := p1
      obtain ⟨z1, z2⟩ := ht c b et
      exact ⟨a, T.ca c, dd, b, rfl, h2, z1, z2, Post.here q1 r1 (by rw [Rep])⟩
  | _ => exact q1.elim
end
def IxOk (K : PySem.W.Frag) (ca : Nat → Addr) (cv : Value) (l : List (Nat × Bool)) : Prop := ∀ p ∈ l, ExK K (ca p.1) ∧ PySem.W.kitOne K (.ref (ca p.1)) cv = some p.2
theorem ix_nil {K : PySem.W.Frag} {ca : Nat → Addr} {cv : Value} : IxOk K ca cv [] := fun _ h => nomatch h
theorem ix_cons {K : PySem.W.Frag} {ca : Nat → Addr} {cv : Value} {c : Nat} {b : Bool} {l : List (Nat × Bool)} (z : ExK K (ca c)) (h : PySem.W.kitOne K (.ref (ca c)) cv = some b) (r : IxOk K ca cv l) : IxOk K ca cv ((c, b) :: l) := fun p hp => by
  rcases List.mem_cons.mp hp with rfl | hp
  · exact ⟨z, h⟩
  · exact r p hp
theorem ix_of {K : PySem.W.Frag} {ca : Nat → Addr} {cv : Value} {l : List (Nat × Bool)} (h : IxOk K ca cv l) : ∀ c b, htab l c = some b → ExK K (ca c) ∧ PySem.W.kitOne K (.ref (ca c)) cv = some b := fun c b e => h (c, b) (lk_mem e)
section
variable {ρ : Ev} {σ : Sto}
@[simp] theorem hit_as (t : Nat → Option Bool) (i : Nat) (g : Ev → M Fl) (x : Xn) : hit ⟨t, some i, g⟩ ρ x σ = (g (ρ.set i (some (.exn x.cls))) σ).bind (unbK i) := nr rfl
@[simp] theorem unbK_nx (i : Nat) : unbK i (.nx ρ) σ = .ok (.nx (ρ.set i none)) σ := nr rfl
@[simp] theorem unbK_rt (i : Nat) (d : D) : unbK i (.rt d) σ = .ok (.rt d) σ := nr rfl
theorem oIsX_ap {t : Nat → Option Bool} {c : Nat} {b : Bool} (h : t c = some b) : oIsX t (.exn c) σ = .ok (.bl b) σ := by unfold oIsX; dsimp only; rw [h]
end
end L4

/-! list(range(n)) -/
namespace L4
open PySem PySem.Spec PySem.Calls PyProof.Rows L2
section
variable {T : Tb} {X : Cx}
def oListR (x : D) : M D := fun σ => match x with
  | .int j => if (decide (0 ≤ j) && decide (j ≤ 1000)) = true then .ok (.lst (rangeD j.toNat)) σ else .bad
  | _ => .bad
@[simp] theorem oListR_ap (j : Int) (h0 : 0 ≤ j) (h1 : j ≤ 1000) (σ : Sto) : oListR (.int j) σ = .ok (.lst (rangeD j.toNat)) σ := by
  unfold oListR; dsimp only; rw [if_pos (by simp [h0, h1])]
end
end L4

/-! t * 2, t a tuple -/
namespace HT
open PySem Builtin
open Sem (wp)
theorem noFill_tup_mul : fillsNumberSlot (.type "tuple") "mul" = pure false :=
  fillsNumberSlot_seq (id := "tuple.__mul__") (r := some (.builtin "tuple.__rmul__")) PySem.F.slot_tuple_mul.lookup (by decide +kernel) PySem.F.slot_tuple_rmul.lookup (by decide +kernel)
theorem repeat_tup : seqRepeat? (.type "tuple") = pure (some (.builtin "tuple.__mul__")) := by
  unfold seqRepeat?; rw [seqSlot_of (T := "tuple") (name := "__mul__") (id := "tuple.__mul__") PySem.F.slot_tuple_mul.lookup (by decide +kernel), seqSlot_of (T := "tuple") (name := "__rmul__") (id := "tuple.__rmul__") PySem.F.slot_tuple_rmul.lookup (by decide +kernel)]
  rfl
theorem rmul_tup (a : Int) (t : Tok) (l : Addr) (items : Array Value) (n : Nat) (dd : Option Addr) (sl : Array (Option Value)) :
    Meets (Builtin.«int.__rmul__» ⟨[.int a t, .ref l], []⟩) (fun _ R s => s.heap.get? l = some ⟨.type "tuple", dd, .seq items n, sl⟩ ∧ R (.ok (.ret Value.notImplemented)) s) :=
  .of_wp fun prog w A R s h => by obtain ⟨hp, gg, d, tk, os⟩ := s; obtain ⟨hl, h⟩ := h; wp_walk; exact ⟨_, rfl, h⟩
end HT
namespace L4
open PySem PySem.Spec PyProof.Rows L2
end L4

/-! a list's item by a truth -/
namespace HT
open PySem Builtin
open Sem (wp)
end HT
namespace L4
open PySem PySem.Spec PyProof.Rows L2
section
variable {T : Tb} {X : Cx}
def oIxB (x y : D) : M D := fun σ => match y with
  | .bl b => (match lsOf σ x with
    | some xs => (match xs[if b then 1 else 0]? with
      | some d => .ok d σ
      | none => .bad)
    | none => .bad)
  | _ => .bad
@[simp] theorem oIxB_t (a b : D) (r : List D) (σ : Sto) : oIxB (.lst (a :: b :: r)) (.bl true) σ = .ok b σ := nr rfl
@[simp] theorem oIxB_f (a : D) (r : List D) (σ : Sto) : oIxB (.lst (a :: r)) (.bl false) σ = .ok a σ := nr rfl
end
end L4

namespace L2
open PySem PySem.Spec PyProof.Rows

/-! ### lists of pairs as tables -/
section
variable {κ : Type} [DecidableEq κ]
def valV (kvs : List (κ × V)) (k : κ) : Option V := (kvs.find? fun kv => decide (kv.1 = k)).map (·.2)
/-- in its place, or at the end -/
def putK (kvs : List (κ × V)) (k : κ) (v : V) : List (κ × V) :=
  if (kvs.any fun kv => decide (kv.1 = k)) = true then kvs.map (fun kv => if kv.1 = k then (kv.1, v) else kv) else kvs ++ [(k, v)]
def dropK (kvs : List (κ × V)) (k : κ) : List (κ × V) := kvs.filter fun kv => decide (kv.1 ≠ k)

theorem valV_pos {p : κ × V} {r : List (κ × V)} {k : κ} (e : p.1 = k) : valV (p :: r) k = some p.2 := by simp [valV, List.find?_cons, e]
theorem valV_neg {p : κ × V} {r : List (κ × V)} {k : κ} (e : ¬ p.1 = k) : valV (p :: r) k = valV r k := by simp [valV, List.find?_cons, e]
theorem valV_any (k : κ) : ∀ kvs : List (κ × V), (kvs.any fun kv => decide (kv.1 = k)) = (valV kvs k).isSome
  | [] => rfl
  | p :: r => by
    rw [List.any_cons]
    by_cases e : p.1 = k
    · simp only [valV_pos e, decide_eq_true e, Bool.true_or, Option.isSome_some]
    · rw [valV_neg e, decide_eq_false e, Bool.false_or]; exact valV_any k r
theorem length_putK (kvs : List (κ × V)) (k : κ) (v : V) : (putK kvs k v).length ≤ kvs.length + 1 := by
  unfold putK
  split
  · rw [List.length_map]; omega
  · rw [List.length_append, List.length_cons, List.length_nil]; omega

theorem RelO.isSome_eq {o : Option V} {u : Option Value} (r : RelO o u) : o.isSome = u.isSome := by
  cases o with
  | none => cases u with
    | none => rfl
    | some _ => exact (show False from r).elim
  | some _ => cases u with
    | none => exact (show False from r).elim
    | some _ => rfl
theorem RelO.getD {o : Option V} {u : Option Value} {d : V} {d' : Value} (r : RelO o u) (rd : RelV d d') : RelV (o.getD d) (u.getD d') := by
  cases o with
  | none => cases u with
    | none => exact rd
    | some _ => exact (show False from r).elim
  | some _ => cases u with
    | none => exact (show False from r).elim
    | some _ => exact r

/-- raw tables of the same keys -/
theorem KV.val {kvs : List (κ × V)} {vs : List (κ × Value)} (r : KV kvs vs) (k : κ) : RelO (valV kvs k) (valueAt vs k) := by
  unfold KV at r
  induction r with
  | nil => exact True.intro
  | @cons p q ps qs h t ih =>
    obtain ⟨h1, h2⟩ := h
    by_cases e : p.1 = k
    · have e' : q.1 = k := h1.symm.trans e
      have b : valueAt (q :: qs) k = some q.2 := by simp [valueAt, List.find?_cons, e']
      rw [valV_pos e, b]; exact h2
    · have e' : ¬ q.1 = k := fun z => e (h1.trans z)
      have b : valueAt (q :: qs) k = valueAt qs k := by simp [valueAt, List.find?_cons, e']
      rw [valV_neg e, b]; exact ih
theorem KV.any {kvs : List (κ × V)} {vs : List (κ × Value)} (r : KV kvs vs) (k : κ) : (kvs.any fun kv => decide (kv.1 = k)) = vs.any fun kv => decide (kv.1 = k) := by
  unfold KV at r
  induction r with
  | nil => rfl
  | cons h t ih => rw [List.any_cons, List.any_cons, ih, h.1]
theorem KV.repl {kvs : List (κ × V)} {vs : List (κ × Value)} (r : KV kvs vs) (k : κ) {y : V} {u : Value} (ry : RelV y u) :
    KV (kvs.map fun kv => if kv.1 = k then (kv.1, y) else kv) (vs.map fun kv => if kv.1 = k then (kv.1, u) else kv) := by
  unfold KV at r ⊢
  induction r with
  | nil => exact .nil
  | @cons p q ps qs h t ih =>
    rw [List.map_cons, List.map_cons]
    refine .cons ?_ ih
    obtain ⟨h1, h2⟩ := h
    by_cases e : p.1 = k
    · rw [if_pos e, if_pos (h1.symm.trans e)]; exact ⟨h1, ry⟩
    · rw [if_neg e, if_neg (fun z => e (h1.trans z))]; exact ⟨h1, h2⟩
theorem KV.put {kvs : List (κ × V)} {vs : List (κ × Value)} (r : KV kvs vs) (k : κ) {y : V} {u : Value} (ry : RelV y u) : KV (putK kvs k y) (stored vs k u) := by
  unfold putK stored
  rw [r.any k]
  by_cases e : (vs.any fun kv => decide (kv.1 = k)) = true
  · rw [if_pos e, if_pos e]; exact r.repl k ry
  · rw [if_neg e, if_neg e]; exact Paired.snoc r ⟨rfl, ry⟩
theorem KV.drop {kvs : List (κ × V)} {vs : List (κ × Value)} (r : KV kvs vs) (k : κ) : KV (dropK kvs k) (without vs k) := by
  unfold KV at r ⊢
  unfold dropK without
  induction r with
  | nil => exact .nil
  | @cons p q ps qs h t ih =>
    obtain ⟨h1, h2⟩ := h
    rw [List.filter_cons, List.filter_cons]
    by_cases e : p.1 = k
    · have a : ¬ decide (p.1 ≠ k) = true := by simp [e]
      have b : ¬ decide (q.1 ≠ k) = true := by simp [h1.symm.trans e]
      rw [if_neg a, if_neg b]; exact ih
    · have e' : ¬ q.1 = k := fun z => e (h1.trans z)
      have a : decide (p.1 ≠ k) = true := by simp [e]
      have b : decide (q.1 ≠ k) = true := by simp [e']
      rw [if_pos a, if_pos b]; exact .cons ⟨h1, h2⟩ ih
theorem KV.keys {kvs : List (κ × V)} {vs : List (κ × Value)} (r : KV kvs vs) : kvs.map (·.1) = vs.map (·.1) := by
  unfold KV at r
  induction r with
  | nil => rfl
  | cons h t ih => rw [List.map_cons, List.map_cons, ih, h.1]
theorem KV.length {kvs : List (κ × V)} {vs : List (κ × Value)} (r : KV kvs vs) : kvs.length = vs.length := Paired.length r
end


/-! ### a tracked dict, its keys ints and texts or tuples of these -/

/-- raw entries of a dict with tuple keys -/
abbrev KT (H : Hp) : List (List Key × V) → List (List Key × Addr × Value) → Prop := Paired fun p q => p.1 = q.1 ∧ H q.2.1 = some (.tup (p.1.map kV)) ∧ RelV p.2 q.2.2
theorem KT.val {H : Hp} {kvs : List (List Key × V)} {xs : List (List Key × Addr × Value)} (r : KT H kvs xs) (k : List Key) : RelO (valV kvs k) ((atKey xs k).map (·.2)) := by
  induction r with
  | nil => exact True.intro
  | @cons p q ps qs h t ih =>
    obtain ⟨h1, _, h2⟩ := h
    by_cases e : p.1 = k
    · have e' : q.1 = k := h1.symm.trans e
      have b : atKey (q :: qs) k = some q.2 := by simp [atKey, List.find?_cons, e']
      rw [valV_pos e, b]; exact h2
    · have e' : ¬ q.1 = k := fun z => e (h1.trans z)
      have b : atKey (q :: qs) k = atKey qs k := by simp [atKey, List.find?_cons, e']
      rw [valV_neg e, b]; exact ih
theorem KT.repl {H : Hp} {kvs : List (List Key × V)} {xs : List (List Key × Addr × Value)} (r : KT H kvs xs) (k : List Key) {y : V} {u : Value} (ry : RelV y u) :
    KT H (kvs.map fun kv => if kv.1 = k then (kv.1, y) else kv) (xs.map (putAt k u)) := by
  induction r with
  | nil => exact .nil
  | @cons p q ps qs h t ih =>
    rw [List.map_cons, List.map_cons]
    refine .cons ?_ ih
    obtain ⟨h1, h2, h3⟩ := h
    unfold putAt
    by_cases e : p.1 = k
    · rw [if_pos e, if_pos (h1.symm.trans e)]; exact ⟨h1, h2, ry⟩
    · rw [if_neg e, if_neg (fun z => e (h1.trans z))]; exact ⟨h1, h2, h3⟩
theorem KT.put {H : Hp} {kvs : List (List Key × V)} {xs : List (List Key × Addr × Value)} (r : KT H kvs xs) (k : List Key) {b : Addr} {y : V} {u : Value} (hb : H b = some (.tup (k.map kV))) (ry : RelV y u) :
    KT H (putK kvs k y) (storedH xs k b u) := by
  have e : (kvs.any fun kv => decide (kv.1 = k)) = (atKey xs k).isSome := by
    rw [valV_any, (r.val k).isSome_eq, Option.isSome_map]
  unfold putK storedH
  rw [e]
  by_cases q : (atKey xs k).isSome = true
  · rw [if_pos q, if_pos q]; exact r.repl k ry
  · rw [if_neg q, if_neg q]; exact Paired.snoc r ⟨rfl, hb, ry⟩
theorem KT.keeps {H H' : Hp} {kvs : List (List Key × V)} {xs : List (List Key × Addr × Value)} (r : KT H kvs xs) (ht : ∀ b ys, H b = some (.tup ys) → H' b = some (.tup ys)) : KT H' kvs xs :=
  Paired.mapP r fun _ _ z => ⟨z.1, ht _ _ z.2.1, z.2.2⟩

section
variable {P : Program} {w : World} {H : Hp} {h : Heap} {a : Addr}
theorem rd_of {u : HO} (ok : HOk P w H h) (e : Rd H a u) : ObjOk P w H h a u := e.ok ok
theorem dk_rd {kvs : List (Key × V)} (ok : HOk P w H h) (e : Rd H a (.dK kvs)) : kvs.length ≤ sizeLine ∧ (a == sysModules) = false ∧ ∃ vs, KV kvs vs ∧ h.DictOf (mixKind P w) a vs :=
  show ObjOk P w H h a (.dK kvs) from rd_of ok e
theorem dk_of {kvs : List (Key × V)} (ok : HOk P w H h) (e : H a = some (.dK kvs)) : kvs.length ≤ sizeLine ∧ (a == sysModules) = false ∧ ∃ vs, KV kvs vs ∧ h.DictOf (mixKind P w) a vs := dk_rd ok (.inl e)
end

/-- what the dict at a holds at the key y -/
def DGet (H : Hp) (a : Addr) (y : V) (r : Option V) : Prop :=
  (∃ kvs k, Rd H a (.dK kvs) ∧ y = kV k ∧ r = valV kvs k) ∨ ∃ kvs k b, Rd H a (.dT kvs) ∧ y = .ref b ∧ H b = some (.tup (k.map kV)) ∧ r = valV kvs k
/-- the heap behind a[y] = v -/
def DPut (H : Hp) (a : Addr) (y v : V) (H' : Hp) : Prop :=
  (∃ kvs k, H a = some (.dK kvs) ∧ y = kV k ∧ kvs.length < sizeLine ∧ H' = upd H a (.dK (putK kvs k v))) ∨
  ∃ kvs k b, H a = some (.dT kvs) ∧ y = .ref b ∧ H b = some (.tup (k.map kV)) ∧ kvs.length < sizeLine ∧ H' = upd H a (.dT (putK kvs k v))
theorem DGet.k {H : Hp} {a : Addr} {kvs : List (Key × V)} {k : Key} (e : H a = some (.dK kvs)) : DGet H a (kV k) (valV kvs k) := .inl ⟨kvs, k, .inl e, rfl, rfl⟩
theorem DGet.t {H : Hp} {a b : Addr} {kvs : List (List Key × V)} {k : List Key} (e : H a = some (.dT kvs)) (eb : H b = some (.tup (k.map kV))) : DGet H a (.ref b) (valV kvs k) := .inr ⟨kvs, k, b, .inl e, rfl, eb, rfl⟩
theorem DPut.k {H : Hp} {a : Addr} {kvs : List (Key × V)} {k : Key} {v : V} (e : H a = some (.dK kvs)) (hl : kvs.length < sizeLine) : DPut H a (kV k) v (upd H a (.dK (putK kvs k v))) := .inl ⟨kvs, k, e, rfl, hl, rfl⟩
theorem DPut.t {H : Hp} {a b : Addr} {kvs : List (List Key × V)} {k : List Key} {v : V} (e : H a = some (.dT kvs)) (eb : H b = some (.tup (k.map kV))) (hl : kvs.length < sizeLine) :
    DPut H a (.ref b) v (upd H a (.dT (putK kvs k v))) := .inr ⟨kvs, k, b, e, rfl, eb, hl, rfl⟩


section
variable {X : Cx} {pins : List (Addr × Obj)} {σ : St} {H : Hp} {s : Shared} {a : Addr} {y v : V} {u r : Value} {o : Option V} {A : Around} {E : Value → Shared → Prop}

theorem Inv.big (I : Inv X pins σ H s) : sysModules < s.heap.objs.size := by
  have h : mainGlobals < s.heap.objs.size := (I.mod.glob.keeps I.bk).lt
  exact Nat.lt_trans (by decide) h

/-- a dict's object is replaced -/
theorem d_write {h' : Heap} {t' : Nat} {ob : HO} (I : Inv X pins σ H s) (mu : Mut (H a)) (hs : Heap.SameBut a s.heap h') (he : ∃ q, h'.get? a = some q) (new : ObjOk X.prog X.w (upd H a ob) h' a ob) :
    Inv X pins σ (upd H a ob) { s with heap := h', toks := t' } :=
  I.write (x := a) (e := a) mu (.inl rfl) (fun b q hb z => (hs.2 b hb).trans z) he new
theorem dk_new {P : Program} {w : World} {H' : Hp} {h' : Heap} {kvs : List (Key × V)} {vs : List (Key × Value)} (z : kvs.length ≤ sizeLine) (hd : (a == sysModules) = false) (rel : KV kvs vs) (dd : h'.DictOf (mixKind P w) a vs) :
    ObjOk P w H' h' a (.dK kvs) := ⟨z, hd, vs, rel, dd⟩
end

section
variable {X : Cx} {pins : List (Addr × Obj)} {σ : St} {H : Hp} {s : Shared} {a : Addr} {kvs : List (Key × V)} {k : Key} {u : Value} {A : Around} {E : Value → Shared → Prop}
end


/-! ### readings and rules -/



section
variable {X : Cx} {o i e value : Expr} {pos pos' tpos : Pos} {td ty tv : TE}
end


/-! ### displays -/
theorem dk_empty {P : Program} {w : World} {H : Hp} (h : Heap) (hb : sysModules < h.objs.size) : ObjOk P w H (h.push { cls := .type "dict", data := .dict #[] }) h.objs.size (.dK []) :=
  ⟨Nat.zero_le _, beq_eq_false_iff_ne.mpr (Ne.symm (Nat.ne_of_lt hb)), [], .nil, Heap.DictOf.new h⟩
/-- {}, to be a dict of the kind that is wanted -/
def tDNewK : TE := fun _ H Q => ∀ p, H p = none → Q (.ref p) (upd H p (.dK []))
section
variable {X : Cx} {pos : Pos}
theorem pe_dnewK : PE X (.Dict [] [] pos) tDNewK := fun pins s σ H Q I h =>
  wpAny_Dict_empty ⟨.ref s.heap.objs.size, _, I.laid (a := s.heap.objs.size) (o := .dK []) (t' := s.toks) (fun _ _ q => Heap.get?_push_of_some _ q) (Nat.le_refl _) (dk_empty s.heap I.big), rfl, h _ (I.hok.fresh (Nat.le_refl _))⟩
end

section
variable {X : Cx} {pins : List (Addr × Obj)} {σ : St} {H : Hp} {s : Shared} {a : Addr} {kvs : List (Key × V)} {A : Around} {E : Value → Shared → Prop}
theorem d_copyOf {Q : Value → Shared → Prop} (I : Inv X pins σ H s) (e : Rd H a (.dK kvs)) (h : ∀ p s', H p = none → Inv X pins σ (upd H p (.dK kvs)) s' → Q (.ref p) s') : wpAny (model X.prog X.w) A (call (.type "dict") [.ref a]) Q E s := by
  obtain ⟨z, hd, vs, rel, dd⟩ := dk_rd I.hok e
  refine kt_call_dict hd dd (by rw [← rel.length]; exact z) fun h' dd' hs => ?_
  refine h _ _ (I.hok.fresh (Nat.le_refl _)) (I.laid (a := s.heap.objs.size) (o := .dK kvs) (t' := s.toks) (fun b q hq => ?_) (Nat.le_refl _) (dk_new z (beq_eq_false_iff_ne.mpr (Ne.symm (Nat.ne_of_lt I.big))) rel dd'))
  exact (hs.2 b (Nat.ne_of_lt (Heap.lt_size hq))).trans (Heap.get?_push_of_some _ hq)
end
end L2

/-! dicts -/
namespace L4
open PySem PySem.Spec PyProof.Rows L2
def keyD : D → Option Key
  | .int i => some (.inl i)
  | .str x => some (.inr x)
  | _ => none
def dcOf (σ : Sto) : D → Option (List (Key × D))
  | .dic ks xs => if ks.length = xs.length then some (ks.zip xs) else none
  | .ref n => (match σ[n]? with
    | some (.dic kvs) => some kvs
    | _ => none)
  | _ => none
def findD (kvs : List (Key × D)) (k : Key) : Option D := (kvs.find? fun kv => decide (kv.1 = k)).map (·.2)
def putDk (kvs : List (Key × D)) (k : Key) (d : D) : List (Key × D) :=
  if kvs.any (fun kv => decide (kv.1 = k)) then kvs.map fun kv => if kv.1 = k then (kv.1, d) else kv else kvs ++ [(k, d)]
section
variable {T : Tb} {X : Cx} {μ : List Addr} {H : Hp}
theorem repk_zip : ∀ {ks : List Key} {ds : List D} {kvs : List (Key × V)}, kvs.map (·.1) = ks → RepL T μ H ds (kvs.map (·.2)) → RepK T μ H (ks.zip ds) kvs
  | ks, [], kvs, h1, h2 => by
    rw [RepL] at h2
    have : kvs = [] := by simpa using h2
    subst this
    rw [← h1]; exact .nil
  | ks, d :: ds, kvs, h1, h2 => by
    rw [RepL] at h2
    obtain ⟨v, r, e, q1, q2⟩ := h2
    cases kvs with
    | nil => cases e
    | cons p kvs =>
      rw [List.map_cons] at e h1
      cases e
      rw [← h1]
      exact .cons ⟨rfl, q1⟩ (repk_zip rfl q2)
theorem rel_dc {σ : Sto} (r : Rel T μ H σ) {x : D} {v : V} {kvs : List (Key × D)} (h : Rep T μ H x v) (e : dcOf σ x = some kvs) : ∃ a vs, v = .ref a ∧ H a = some (.dK vs) ∧ RepK T μ H kvs vs := by
  cases x with
  | dic ks xs =>
    rw [Rep] at h
    obtain ⟨a, vs, rfl, _, h1, h2, h3⟩ := h
    unfold dcOf at e
    dsimp only at e
    split at e
    · cases e; exact ⟨a, vs, rfl, h1, repk_zip h2 h3⟩
    · cases e
  | ref n =>
    unfold dcOf at e
    dsimp only at e
    cases q : σ[n]? with
    | none => rw [q] at e; cases e
    | some o =>
      rw [q] at e
      cases o with
      | dic kvs' =>
        cases e
        obtain ⟨a, rfl, _, vs, h1, h2⟩ := r.at h q
        exact ⟨a, vs, rfl, h1, h2⟩
      | _ => cases e
  | _ => cases e
theorem any_rep {kvs : List (Key × D)} {vs : List (Key × V)} (h : RepK T μ H kvs vs) (k : Key) : (kvs.any fun kv => decide (kv.1 = k)) = (vs.any fun kv => decide (kv.1 = k)) := by
  unfold RepK at h
  induction h with
  | nil => rfl
  | @cons p q ps qs h t ih => rw [List.any_cons, List.any_cons, ih, h.1]
theorem paired_map {α β : Type} {F : α → β → Prop} {f : α → α} {g : β → β} (hfg : ∀ a b, F a b → F (f a) (g b)) : ∀ {l : List α} {m : List β}, Paired F l m → Paired F (l.map f) (m.map g)
  | _, _, .nil => .nil
  | _, _, .cons h t => .cons (hfg _ _ h) (paired_map hfg t)
theorem paired_snoc {α β : Type} {F : α → β → Prop} {a : α} {b : β} (hab : F a b) : ∀ {l : List α} {m : List β}, Paired F l m → Paired F (l ++ [a]) (m ++ [b])
  | _, _, .nil => .cons hab .nil
  | _, _, .cons h t => .cons h (paired_snoc hab t)
theorem dput_rep {kvs : List (Key × D)} {vs : List (Key × V)} (h : RepK T μ H kvs vs) (k : Key) {d : D} {v : V} (hd : Rep T μ H d v) : RepK T μ H (putDk kvs k d) (putK vs k v) := by
  unfold putDk putK
  rw [any_rep h k]
  split
  · refine paired_map (fun p q h => ?_) h
    by_cases e : p.1 = k
    · rw [if_pos e, if_pos (h.1.symm.trans e)]; exact ⟨h.1, hd⟩
    · rw [if_neg e, if_neg (fun z => e (h.1.trans z))]; exact h
  · exact paired_snoc ⟨rfl, hd⟩ h
theorem RepK.mono {μ' : List Addr} {H' : Hp} (e : Ext μ H μ' H') {kvs : List (Key × D)} {vs : List (Key × V)} (h : RepK T μ H kvs vs) : RepK T μ' H' kvs vs := Paired.mapP h fun _ _ z => ⟨z.1, Rep.mono e _ _ z.2⟩
/-! d[k] -/
def oDGet (x y : D) : M D := fun σ => match keyD y with
  | some k => (match dcOf σ x with
    | some kvs => (match findD kvs k with
      | some d => .ok d σ
      | none => .bad)
    | none => .bad)
  | none => .bad
/-! k in d -/
/-! d[k] = v -/
/-! {} that is changed; dict(d) -/
def eDnew : Ev → M D := fun _ σ => .ok (.ref σ.length) (σ ++ [.dic []])
theorem fe_dnew {pos : Pos} : FE T X (.Dict [] [] pos) eDnew := by
  intro pins s st H Q I h
  obtain ⟨μ, ρ, σ, hE, hr, hp⟩ := h
  refine pe_dnewK pins s st H Q I fun p hn => ?_
  exact hp (μ ++ [p]) (.ref p) _ (ext_push hn) (hr.push hn ⟨[], upd_same, .nil⟩) (rep_push hr)
/-- {} that nobody changes -/
theorem fe_dnil {pos : Pos} : FE T X (.Dict [] [] pos) (eC (.dic [] [])) := by
  intro pins s st H Q I h
  obtain ⟨μ, ρ, σ, hE, hr, hp⟩ := h
  refine pe_dnewK pins s st H Q I fun p hn => ?_
  exact hp μ (.ref p) _ (ext_new hn) (hr.fresh hn) (by rw [Rep]; exact ⟨p, [], rfl, fun hm => (by obtain ⟨u, hu, _⟩ := hr.mem hm; rw [hn] at hu; cases hu), upd_same, rfl, RepL.nil⟩)
def rDcp : List V → Hp → VK → Prop := fun xs H Q => ∃ a kvs, xs = [.ref a] ∧ H a = some (.dK kvs) ∧ ∀ p, H p = none → Q (.ref p) (upd H p (.dK kvs))
theorem call_dcp : CallR X (.type "dict") rDcp := by
  intro pins s st H xs us Q I r h
  obtain ⟨a, kvs, rfl, e, q⟩ := h
  obtain ⟨u, rfl, ru⟩ := vals1 r
  cases ru
  exact d_copyOf I (.inl e) fun p s' hn I' => ⟨.ref p, _, I', rfl, q p hn⟩
def oDcp (ds : List D) : M D := fun σ => match ds with
  | [x] => (match dcOf σ x with
    | some kvs => .ok (.dic (kvs.map (·.1)) (kvs.map (·.2))) σ
    | none => .bad)
  | _ => .bad
theorem repk_un : ∀ {kvs : List (Key × D)} {vs : List (Key × V)}, RepK T μ H kvs vs → vs.map (·.1) = kvs.map (·.1) ∧ RepL T μ H (kvs.map (·.2)) (vs.map (·.2))
  | _, _, .nil => ⟨rfl, RepL.nil⟩
  | _, _, .cons h t => by
    obtain ⟨z1, z2⟩ := repk_un t
    exact ⟨by rw [List.map_cons, List.map_cons, z1, h.1], RepL.cons h.2 z2⟩
theorem snd_dcp : SndCall T rDcp oDcp := by
  intro E μ H σ ds vs Q r p h
  match ds with
  | [] => exact h.elim
  | [x] =>
    unfold oDcp at h
    dsimp only at h
    cases ed : dcOf σ x with
    | none => rw [ed] at h; exact h.elim
    | some kvs =>
      rw [ed] at h
      rw [RepL] at p
      obtain ⟨v, r', rfl, q1, q2⟩ := p
      rw [RepL] at q2
      subst q2
      obtain ⟨a, ws, rfl, h1, h2⟩ := rel_dc r q1 ed
      refine ⟨a, ws, rfl, h1, fun l hn => ?_⟩
      obtain ⟨z1, z2⟩ := repk_un h2
      exact h μ (.ref l) _ (ext_new hn) (r.fresh hn) (by rw [Rep]; exact ⟨l, ws, rfl, fun hm => (by obtain ⟨u, hu, _⟩ := r.mem hm; rw [hn] at hu; cases hu), upd_same, z1, RepL.mono (ext_new hn) _ _ z2⟩)
  | _ :: _ :: _ => exact h.elim
end
end L4

/-! a list's index of a thing; isinstance against an own class; two dicts of ints -/
namespace L4
open PySem PySem.Spec PyProof.Rows L2
section
variable {T : Tb} {X : Cx}
def oIndex (x : D) (xs : List D) : M D := fun σ => match xs with
  | [y] => (match lsOf σ x with
    | some ys => if (isF y && ys.all isF && decide (ys.length ≤ 900) && decide ((ys.findIdx fun z => eqF z y) < ys.length)) = true then .ok (.int (ys.findIdx fun z => eqF z y : Nat)) σ else .bad
    | none => .bad)
  | _ => .bad
/-! isinstance against an own class -/
structure InK (K : PySem.W.Frag) (C : Addr) : Prop where
  cl : L2.Cls K C
  a : PySem.W.findIn K (.ref C) "__class__" = some (some (.builtin "object.__class__"))
  n : PySem.W.specialIn K (.builtin "object.__class__") "__get__" = some (some (.builtin "getset_descriptor.__get__"))
  t : PySem.W.takesIn K (.builtin "object.__class__") = some true
  m : PySem.W.mroIn K C (.type "object") = some true
/-! d == e, two dicts of ints that are alike -/
def likeK : List (Key × D) → List (Key × D) → Bool
  | [], [] => true
  | (k, .int i) :: r, (k', .int j) :: r' => decide (k = k') && (i == j) && likeK r r'
  | _, _ => false
theorem hits_of {A : Around} {s : Shared} : ∀ {ka : List (Key × V)} {va vb : List (Key × Value)}, KV ka va → KV ka vb → (∀ p ∈ ka, ∃ i, p.2 = V.int i) → ∀ (B : List (Key × Value)), (∀ p ∈ vb, valueAt B p.1 = some p.2) → PySem.W.KeqHits A s B va true
  | _, _, _, .nil, .nil, _, B, _ => .nil
  | _, _, _, @Paired.cons _ _ _ p q ps qs h1 t1, @Paired.cons _ _ _ _ q' _ qs' h2 t2, hi, B, hB => by
    obtain ⟨i, ei⟩ := hi p List.mem_cons_self
    obtain ⟨k1, r1⟩ := h1
    obtain ⟨k2, r2⟩ := h2
    rw [ei] at r1 r2
    obtain ⟨t, et⟩ := r1
    obtain ⟨t', et'⟩ := r2
    have hv := hB q' List.mem_cons_self
    rw [← k2, k1, et'] at hv
    have := PySem.W.KeqHits.hit (A := A) (s := s) (kb := B) (k := q.1) (v := q.2) (r := qs) hv (by rw [et]; exact SeqAt.EqAt.int_int i t i t') (hits_of t1 t2 (fun p hp => hi p (List.mem_cons_of_mem _ hp)) B (fun p hp => hB p (List.mem_cons_of_mem _ hp)))
    have eq : q = (q.1, q.2) := rfl
    rw [show (i == i) = true by simp] at this
    exact this
theorem valueAt_mem : ∀ {vb : List (Key × Value)}, (vb.map (·.1)).Nodup → ∀ p ∈ vb, valueAt vb p.1 = some p.2
  | [], _, p, h => nomatch h
  | q :: r, hn, p, h => by
    rw [List.map_cons, List.nodup_cons] at hn
    rcases List.mem_cons.mp h with rfl | h
    · simp [valueAt, List.find?_cons]
    · have ne : ¬ q.1 = p.1 := fun z => hn.1 (by rw [z]; exact List.mem_map_of_mem h)
      have := valueAt_mem hn.2 p h
      simp only [valueAt, List.find?_cons, ne, decide_false] at this ⊢
      exact this
theorem like_rep {μ : List Addr} {H : Hp} : ∀ {k1 k2 : List (Key × D)} {v1 v2 : List (Key × V)}, RepK T μ H k1 v1 → RepK T μ H k2 v2 → likeK k1 k2 = true → v1 = v2 ∧ ∀ p ∈ v1, ∃ i, p.2 = V.int i
  | [], [], _, _, .nil, .nil, _ => ⟨rfl, fun _ h => nomatch h⟩
  | [], _ :: _, _, _, _, _, h => by simp [likeK] at h
  | (k, d) :: r, [], _, _, _, _, h => by cases d <;> simp [likeK] at h
  | (k, d) :: r, (k', d') :: r', _, _, @Paired.cons _ _ _ _ q _ qs h1 t1, @Paired.cons _ _ _ _ q' _ qs' h2 t2, h => by
    cases d <;> cases d' <;> simp only [likeK, Bool.and_eq_true, decide_eq_true_eq, beq_iff_eq, Bool.false_eq_true] at h
    obtain ⟨⟨rfl, rfl⟩, hr⟩ := h
    obtain ⟨e, hi⟩ := like_rep t1 t2 hr
    subst e
    obtain ⟨a1, a2⟩ := h1
    obtain ⟨b1, b2⟩ := h2
    dsimp only at a1 a2 b1 b2
    rw [Rep] at a2 b2
    have eq : q = q' := Prod.ext (a1.symm.trans b1) (a2.trans b2.symm)
    subst eq
    refine ⟨rfl, fun p hp => ?_⟩
    rcases List.mem_cons.mp hp with rfl | hp
    · exact ⟨_, a2⟩
    · exact hi p hp
end
end L4

/-! int(x) of a truth or an int; a dict's display of texts -/
namespace L4
open PySem PySem.Spec PyProof.Rows L2
section
variable {T : Tb} {X : Cx}

inductive CDs (X : Cx) : List (Option Expr) → List Expr → List (Str × Str) → Prop
  | nil : CDs X [] [] []
  | cons {k v : Expr} {x y : Str} {ks : List (Option Expr)} {vs : List Expr} {l : List (Str × Str)} : PE X k (tC (.str x)) → PE X v (tC (.str y)) → CDs X ks vs l → CDs X (some k :: ks) (v :: vs) ((x, y) :: l)
theorem CDs.all {ks vs l} (h : CDs X ks vs l) : ks.all (·.isSome) = true ∧ ks.length = vs.length ∧ ks.length = l.length := by
  induction h with
  | nil => exact ⟨rfl, rfl, rfl⟩
  | cons _ _ _ ih => exact ⟨by simpa using ih.1, by simpa using ih.2.1, by simpa using ih.2.2⟩
end
end L4

/-! x += e, x -= e of ints -/
namespace L4
open PySem PySem.Spec PyProof.Rows L2
def augK (o : Int → Int → Int) (i : Nat) (ρ : Ev) (x d : D) : M Fl := fun σ => match x, d with
  | .int a, .int b => .ok (.nx (ρ.set i (some (.int (o a b))))) σ
  | _, _ => .bad
def sAug (o : Int → Int → Int) (i : Nat) (f : Ev → M D) : Ev → M Fl := fun ρ => match ρ[i]? with
  | some (some x) => xs ρ (f ρ) (augK o i ρ x)
  | _ => fun _ => .bad
theorem sAug_ap {o : Int → Int → Int} {i : Nat} {f : Ev → M D} {ρ : Ev} {σ : Sto} {x : D} (h : ρ[i]? = some (some x)) : sAug o i f ρ σ = xsO ρ (augK o i ρ x) (f ρ σ) := by
  unfold sAug; rw [h]; exact xs_ap ..
@[simp] theorem augK_ii (o : Int → Int → Int) (i : Nat) (ρ : Ev) (a b : Int) (σ : Sto) : augK o i ρ (.int a) (.int b) σ = .ok (.nx (ρ.set i (some (.int (o a b))))) σ := nr rfl
section
variable {T : Tb} {X : Cx} {e : Expr} {f : Ev → M D} {pos : Pos}
theorem fs_aug {i : Nat} {x : Str} {pos' : Pos} {op : Operator} {o : Int → Int → Int} (ho : PIp X op (ipI o)) (hN : X.N.Nodup) (hi : X.N[i]? = some x) (hx : Loc X.env.scope x) (he : FE T X e f) (hf : X.fn x = true ∨ X.env.scope.names.lookup x = some .local := by first | exact .inl rfl | exact .inr rfl | assumption) :
    FS T X (.AugAssign (.Name x pos') op e pos) (sAug o i f) := by
  intro pins s st H D I hw
  refine ps_aug hN hi hx he ho hf pins s st H D I ?_
  obtain ⟨μ, ρ, σ, hE, hr, hp⟩ := hw
  unfold sAug at hp
  cases e0 : ρ[i]? with
  | none => rw [e0] at hp; exact hp.elim
  | some q =>
    cases q with
    | none => rw [e0] at hp; exact hp.elim
    | some d =>
      rw [e0] at hp
      obtain ⟨v, h1, h2⟩ := hE.2 i d e0
      refine ⟨v, h1, μ, ρ, σ, hE, hr, hp.xs hE fun y σ1 μ1 vy H1 _ e1 r1 q1 p1 => ?_⟩
      cases d with
      | int a =>
        cases y with
        | int b =>
          rw [Rep] at h2 q1
          subst h2 q1
          exact ⟨a, b, rfl, rfl, Post.here (g := Gl2.nx (st.set i (some (.int (o a b))))) p1 r1 ((hE.mono e1).set i (by rw [Rep]))⟩
        | _ => exact p1.elim
      | _ => exact p1.elim
end
end L4

/-! list(range(a, b)) -/
namespace L4
open PySem PySem.Spec PySem.Calls PyProof.Rows L2
section
variable {T : Tb} {X : Cx}
end
end L4

/-! d.setdefault(k, v) -/
namespace L4
open PySem PySem.Spec PyProof.Rows L2
def methDK (o : D → List D → M D) (m : M (List D)) (x : D) : M D := fun σ => match dcOf σ x with
  | some _ => bnd m (o x) σ
  | none => .bad
def eMethD (o : D → List D → M D) (f : Ev → M D) (fs : Ev → M (List D)) : Ev → M D := fun ρ => bnd (f ρ) (methDK o (fs ρ))
section
variable {T : Tb} {X : Cx} {o e : Expr} {es : List Expr} {f : Ev → M D} {fs : Ev → M (List D)} {name : Str} {apos cpos : Pos} {id : String} {r : V → List V → Hp → VK → Prop} {g : D → List D → M D}
theorem fe_methD (pa : PlainAttrs "dict") (slot : Slot "dict" name id) (hty : typeOf (.builtin id) = pure (.type "method_descriptor")) (hm : MtR X id r) (hs : SndMt T r g) (ho : FE T X o f) (ha : FA T X (e :: es) fs)
    (hbase : attributeBase o name X.env (eval o X.env) = eval o X.env := by rfl)
    (hfew : ((backTo cpos (starEach (e :: es) X.env)).all (fun x => !x.1) && (backToKw cpos (keywordEach [] X.env)).all (fun x => x.1.isSome)
      && decide ((e :: es).length + ([] : List Keyword).length + (if ([] : List Keyword).isEmpty then 0 else 1) < 30)) = true := by rfl)
    (hline : (apos.endLine == cpos.line) = true := by rfl) (hst : starEach (e :: es) X.env = (false, eval e X.env) :: starEach es X.env := by rfl) (hplain : (backTo cpos (starEach es X.env)).any (·.1) = false := by rfl) :
    FE T X (.Call (.Attribute o name apos) (e :: es) [] cpos) (eMethD g f fs) := by
  intro pins s st H Q I h
  refine pe_bm pa slot hty hm ho ha hbase hfew hline hst hplain pins s st H Q I ?_
  obtain ⟨μ, ρ, σ, he, hr, hp⟩ := h
  refine ⟨μ, ρ, σ, he, hr, hp.bind fun x σ1 μ1 v H1 _ e1 r1 p1 q1 => ?_⟩
  unfold methDK at q1
  cases el : dcOf σ1 x with
  | none => rw [el] at q1; exact q1.elim
  | some xs =>
    rw [el] at q1
    obtain ⟨a, vs, rfl, h1, h2⟩ := rel_dc r1 p1 el
    refine ⟨.inr (.inr (.inl ⟨rfl, .inl ⟨vs, h1⟩⟩)), μ1, ρ, σ1, he.mono e1, r1, q1.bind fun ds σ2 μ2 ws H2 _ e2 r2 p2 q2 => ?_⟩
    exact hs _ μ2 H2 σ2 x ds (.ref a) ws Q r2 (Rep.mono e2 _ _ p1) p2 q2
end
end L4

/-! x in a list or tuple, the items compared as deep as they go -/
namespace L4
open PySem PySem.Spec PyProof.Rows L2
open Classical in
section
variable {T : Tb} {X : Cx}
end
end L4

/-! texts -/
namespace L4
open PySem PySem.Spec PyProof.Rows L2
/-! a[b] and len of a text, too -/
section
variable {T : Tb} {X : Cx}
end
/-! a walk over the signs of a text -/
section
variable {T : Tb} {X : Cx} {tg iter : Expr} {f : Ev → M D}
end
/-! methods of texts -/
section
variable {T : Tb} {X : Cx} {o e : Expr} {es : List Expr} {f : Ev → M D} {fs : Ev → M (List D)} {name : Str} {apos cpos : Pos} {id : String} {r : V → List V → Hp → VK → Prop} {g : D → List D → M D}
/-! x.split(y) -/
/-! x.join(ys) -/
end
end L4

/-! for a, b in enumerate(xs), zip(xs, ys) -/
namespace L4
open PySem PySem.Spec PyProof.Rows L2
/-! what is never come to -/
section
variable {X : Cx} {pins : List (Addr × Obj)} {σ : St} {H : Hp} {s : Shared} {h' : Heap}
theorem ne_none {H : Hp} {a b : Addr} {u : HO} (e : H b = some u) (n : H a = none) : b ≠ a := fun z => by rw [z, n] at e; cases e
/-- the records at its have turned, a new object was laid at p -/
theorem _root_.L2.Inv.turnL {t' : Nat} {its : List Addr} {p : Addr} {o : HO} (I : Inv X pins σ H s) (k : ∀ b u, b ∉ its → s.heap.get? b = some u → h'.get? b = some u) (hf : ∀ b ∈ its, FpOk X pins H b) (hp : s.heap.objs.size ≤ p) (new : ObjOk X.prog X.w (upd H p o) h' p o) :
    Inv X pins σ (upd H p o) { s with heap := h', toks := t' } := by
  have hn : H p = none := I.hok.fresh hp
  have nit : ∀ b u, H b = some u → b ∉ its := fun b u e z => by rw [(hf b z).1] at e; cases e
  refine I.step (g' := s.gens) (d' := s.drawn) (ch := its) (fun b hb => ?_) (fun b o _ _ hc e _ => k b o hc e) (fun b o _ _ hc e _ => ⟨o.slots, k b o hc e⟩) (fun b u _ q n => by rw [upd_ne (Nat.ne_of_lt (Nat.lt_of_lt_of_le (Heap.lt_size q) hp))]; exact n)
    (fun b o hc e => ⟨o, k b o hc e⟩) (fun b xs q => by rw [upd_ne (ne_none q hn)]; exact q) (fun b u xs q => by rw [upd_ne (ne_none q hn)]; exact q) (fun b ps q => ⟨#[], by rw [upd_ne (ne_none q hn), q]; simp⟩) (fun m hm => ?_) (fun b u e => ?_) I.bare
  · obtain ⟨f0, f1, f2, f3, f4, f5⟩ := hf b hb
    exact ⟨f3, f1, f4, f5⟩
  · obtain ⟨o, es, ep, ho, r⟩ := hm
    exact ⟨o, es, ep, k _ o (fun z => (hf _ z).2.1 rfl) ho, r⟩
  · by_cases hb : b = p
    · subst hb; rw [upd_same] at e; cases e; exact new
    · rw [upd_ne hb] at e
      refine (I.hok b u e).stay (fun c v hc q => k c v ?_ q) (fun c q => by rw [upd_ne (ne_none q hn)]; exact q) fun c xs q => by rw [upd_ne (ne_none q hn)]; exact q
      rcases hc with z | z
      · rw [z]; exact nit b u e
      · exact nit c _ z
theorem _root_.L2.Inv.turnN {t' : Nat} {its : List Addr} (I : Inv X pins σ H s) (k : ∀ b u, b ∉ its → s.heap.get? b = some u → h'.get? b = some u) (hf : ∀ b ∈ its, FpOk X pins H b) : Inv X pins σ H { s with heap := h', toks := t' } := by
  have nit : ∀ b u, H b = some u → b ∉ its := fun b u e z => by rw [(hf b z).1] at e; cases e
  refine I.step (g' := s.gens) (d' := s.drawn) (ch := its) (fun b hb => ?_) (fun b o _ _ hc e _ => k b o hc e) (fun b o _ _ hc e _ => ⟨o.slots, k b o hc e⟩) (fun b u _ q n => n)
    (fun b o hc e => ⟨o, k b o hc e⟩) (fun b xs q => q) (fun b u xs q => q) (fun b ps q => ⟨#[], by rw [q]; simp⟩) (fun m hm => ?_) (fun b u e => ?_) I.bare
  · obtain ⟨f0, f1, f2, f3, f4, f5⟩ := hf b hb
    exact ⟨f3, f1, f4, f5⟩
  · obtain ⟨o, es, ep, ho, r⟩ := hm
    exact ⟨o, es, ep, k _ o (fun z => (hf _ z).2.1 rfl) ho, r⟩
  · refine (I.hok b u e).stay (fun c v hc q => k c v ?_ q) (fun _ q => q) fun _ _ q => q
    rcases hc with z | z
    · rw [z]; exact nit b u e
    · exact nit c _ z
end
theorem cls_ne {h : Heap} {a b : Addr} {o o' : Obj} {n n' : String} (e : h.get? a = some o) (e' : h.get? b = some o') (c : o.cls = .type n) (c' : o'.cls = .type n') (hn : n ≠ n') : a ≠ b := fun z => by
  subst z; rw [e] at e'; cases e'; rw [c] at c'; injection c' with q; exact hn q
/-- by pairs -/
def Ite (K : PySem.W.Frag) (l : Addr) : It :=
  ⟨fun i H => ∃ xs x, SqL K H l xs ∧ xs[i]? = some x, fun i H v H' => ∃ p x, H p = none ∧ v = .ref p ∧ (∀ xs, SqL K H l xs → xs[i]? = some x) ∧ H' = upd H p (.tup [.int i, x]), fun i H => ∃ xs, SqL K H l xs ∧ i = xs.length⟩
theorem turn_enum {P : Program} {w : World} {K : PySem.W.Frag} {elts : List Expr} {kk : Nat} {pos : Pos} (l e it : Addr) : Turn P w K (.Tuple elts kk pos) (Ite K l) [e, it] e (fun i h => (∃ old, IsEnum h e it i old) ∧ h.IsListIter it l i) where
  mem := by simp
  obj := fun i h st b hb => by
    obtain ⟨⟨old, s1⟩, o, s2, c, d⟩ := st
    simp only [List.mem_cons, List.not_mem_nil, or_false] at hb
    rcases hb with rfl | rfl
    · exact ⟨_, s1, fun v z => by cases z⟩
    · exact ⟨o, s2, fun v z => by rw [d] at z; cases z⟩
  keep := fun i h h' st k => by
    obtain ⟨⟨old, s1⟩, s2⟩ := st
    exact ⟨⟨old, k e (by simp) _ s1⟩, s2.at fun o q => k it (by simp) o q⟩
  item := by
    intro X hP hw hK hc i pins s σ H E I hf st hg
    subst hP hw hK
    obtain ⟨xs, x, hq, hx⟩ := hg
    obtain ⟨its, rv, p, hz⟩ := I.list hq
    obtain ⟨u, hu, ru⟩ := rv.get hx
    obtain ⟨⟨old, s1⟩, s2⟩ := st
    obtain ⟨oa, ea, ca, _⟩ := id p.isList
    obtain ⟨ob, eb, cb, _⟩ := id s2
    have nle : l ≠ e := cls_ne ea s1 ca rfl (by decide)
    have nli : l ≠ it := cls_ne ea eb ca cb (by decide)
    have nei : e ≠ it := cls_ne s1 eb rfl cb (by decide)
    have W := WalksT.enumerate (prog := X.prog) (w := X.w) (A := X.A) (I.ok.hd hc) e it l nei nle nli its.toArray
    have hi : i < its.toArray.size := by
      have := (List.getElem?_eq_some_iff.mp hu).1
      simpa using this
    refine W.item i s _ E hi ⟨⟨old, s1⟩, s2, p.isList⟩ fun T vals h' tk hPt hT hTup hMid hk => ?_
    obtain ⟨t, y, hy, rfl⟩ := hPt
    have ey : y = u := by
      have : its.toArray[i]? = some u := by simpa using hu
      rw [this] at hy; cases hy; rfl
    subst ey
    refine ⟨.ref T, rfl, W.go elts kk pos i T { s with heap := h', toks := tk } _ E hMid fun h2 hS hk2 => ?_⟩
    have hap := W.apart i T h' hMid
    have hTup2 : h2.IsTuple T #[.int i t, y] := by
      obtain ⟨o, e1, c1⟩ := hTup
      exact ⟨o, hk2 T o hap e1, c1⟩
    have hn : H T = none := I.hok.fresh hT
    refine ⟨.ref T, upd H T (.tup [.int i, x]), I.turnL (o := .tup [.int i, x]) (fun b o hb q => hk2 b o hb (hk b o hb q)) hf hT ?_, rfl, ⟨T, x, hn, rfl, fun ys hy => by rw [I.list_inj hy hq]; exact hx, rfl⟩, ⟨hS.1, hS.2.1⟩, fun b hb => ?_⟩
    · exact ⟨(show (2 : Nat) ≤ sizeLine by decide), [.int i t, y], .cons ⟨t, rfl⟩ (.cons ru .nil), hTup2⟩
    · rw [upd_ne (fun z => hap (by rw [← z]; exact hb))]
      exact (hf b hb).1
  done := by
    intro X hP hw hK hc i pins s σ H E I hf st hg
    subst hP hw hK
    obtain ⟨xs, hq, hx⟩ := hg
    obtain ⟨its, rv, p, hz⟩ := I.list hq
    obtain ⟨⟨old, s1⟩, s2⟩ := st
    have hl := rv.length
    exact wpAny_pyNext_enum_end (I.ok.hd hc) s1 s2 p.isList (by simp; omega) fun h' eb => ⟨rfl, I.turnN (t' := s.toks) (fun b o hb q => eb b o (fun z => hb (by simp [z])) q) hf⟩
  self := fun A i s Q E st h => by
    obtain ⟨⟨old, s1⟩, s2⟩ := st
    exact wpAny_pyIter_enum s1 h
/-! the loop: what comes next, by the turn and the store -/
abbrev NX := Nat → Sto → Option (Option D)
def SrcN (T : Tb) (μ0 : List Addr) (H0 : Hp) (nx : NX) (J : It) : Prop := ∀ μ H σ i, Ext μ0 H0 μ H → Rel T μ H σ → match nx i σ with
  | none => True
  | some none => J.stop i H
  | some (some d) => J.go i H ∧ ∀ x H', J.yld i H x H' → Ext μ H μ H' ∧ Rel T μ H' σ ∧ Rep T μ H' d x
def tIN (T : Tb) (X : Cx) (f : Ev → M NX) : TI := fun st H R => ∃ μ ρ σ, ERep T μ H ρ st ∧ Rel T μ H σ ∧ Post T (XE X st) (SrcN T) μ H (f ρ σ) R
abbrev FIN (T : Tb) (X : Cx) (tg iter : Expr) (f : Ev → M NX) : Prop := PI X tg iter (tIN T X f)
def loopN (nx : NX) (tg : D → Ev → Option Ev) (body : Ev → M Fl) : Nat → Nat → Ev → M Fl
  | 0, _, _ => bad
  | k + 1, i, ρ => fun σ => match nx i σ with
    | none => .bad
    | some none => .ok (.nx ρ) σ
    | some (some d) => match tg d ρ with
      | none => .bad
      | some ρ1 => bnd (body ρ1) (loopK (loopN nx tg body k (i + 1))) σ
def forNK (tg : D → Ev → Option Ev) (body : Ev → M Fl) (ρ : Ev) (nx : NX) : M Fl := loopN nx tg body 1001 0 ρ
def sForN (src : Ev → M NX) (tg : D → Ev → Option Ev) (body : Ev → M Fl) : Ev → M Fl := fun ρ => xs ρ (src ρ) (forNK tg body ρ)
section
variable {T : Tb} {X : Cx} {tgt iter : Expr} {body : List Stmt} {src : Ev → M NX} {t : D → Ev → Option Ev} {g : Ev → M Fl} {pos : Pos}
theorem fs_forN (hp : PassesOwn (model X.prog X.w) X.A X.env X.xe) (hc : X.calm = true) (hi : FIN T X tgt iter src) (hg : FG T X tgt t) (hb : FSs T X body g)
    (hs : ∀ x, foldedSetIterable iter X.env x = pure x := by intro _; rfl) : FS T X (.For tgt iter body [] pos) (sForN src t g) := by
  intro pins s st H D I hq
  refine ps_for hp hc hi hg hb hs pins s st H D I ?_
  obtain ⟨μ, ρ, σ, hE, hr, hp⟩ := hq
  refine ⟨μ, ρ, σ, hE, hr, hp.xs hE fun nx σ1 μ1 J H1 _ e1 r1 q1 p1 => ?_⟩
  have p1' : Post T EN (RFl T) μ1 H1 (loopN nx t g 1001 0 ρ σ1) (EndQ X D) := p1
  refine ⟨fun i m st2 H2 => ∃ μ ρ σ, Ext μ1 H1 μ H2 ∧ ERep T μ H2 ρ st2 ∧ Rel T μ H2 σ ∧ Post T EN (RFl T) μ H2 (loopN nx t g m i ρ σ) (EndQ X D), ⟨1001, μ1, ρ, σ1, Ext.refl _ _, hE.mono e1, r1, p1'⟩, ?_⟩
  rintro i m st2 H2 ⟨μ2, ρ2, σ2, ex, hE2, r2, p2⟩
  cases m with
  | zero => exact p2.elim
  | succ m =>
    unfold loopN at p2
    have so := q1 μ2 H2 σ2 i ex r2
    cases en : nx i σ2 with
    | none => simp only [en] at p2; exact p2.elim
    | some o =>
      cases o with
      | none =>
        simp only [en] at p2 so
        exact .inl ⟨so, Post.here (g := Gl2.nx st2) p2 r2 hE2⟩
      | some d =>
        simp only [en] at p2 so
        obtain ⟨hgo, hy⟩ := so
        refine .inr ⟨hgo, fun st3 H3 => ∃ μ ρ σ, Ext μ1 H1 μ H3 ∧ ERep T μ H3 ρ st3 ∧ Rel T μ H3 σ ∧ Post T EN (RFl T) μ H3 (loopN nx t g m (i + 1) ρ σ) (EndQ X D), fun st3 H3 h => ⟨m, Nat.lt_succ_self _, h⟩, fun x H3 y => ?_⟩
        obtain ⟨ex3, r3, hx⟩ := hy x H3 y
        cases ht : t d ρ2 with
        | none => simp only [ht] at p2; exact p2.elim
        | some ρ3 =>
          simp only [ht] at p2
          exact ⟨μ2, σ2, ρ2, d, ρ3, hE2.mono ex3, r3, hx, ht, fun st3 hE3 => ⟨μ2, ρ3, σ2, hE3, r3, (Post.mono ex3 p2).bind fun fl σ4 μ4 gl H4 _ e4 r4 q4 p4 => turn_end r4 q4 p4 fun ρ5 st5 hE5 p5 => ⟨μ4, ρ5, σ4, (ex.trans ex3).trans e4, hE5, r4, p5⟩⟩⟩
end
/-! enumerate(xs), zip(xs, ys) -/
def nxE (a : D) : NX := fun i σ => match lsOf σ a with
  | some xs => (match xs[i]? with
    | some x => some (some (.tup [.int (i : Int), x]))
    | none => if i = xs.length then some none else none)
  | none => none
def enumK (d : D) : M NX := fun σ => match lsOf σ d with
  | some _ => .ok (nxE d) σ
  | none => .bad
def srcE (f : Ev → M D) : Ev → M NX := fun ρ => bnd (f ρ) enumK
section
variable {T : Tb} {X : Cx} {elts : List Expr} {kk : Nat} {p0 p pos : Pos} {f g : Ev → M D}
theorem bt_enumerate : bootBuiltins "enumerate" = some (.type "enumerate") := by decide +kernel
def iEnum (K : PySem.W.Frag) (ta : TA) : TI := fun σ H R => ta σ H fun vs H1 => ∃ l xs, vs = [.ref l] ∧ SqL K H1 l xs ∧ R (Ite K l) H1
theorem pi_enum {a : Expr} {ta : TA} (hg : Gl X "enumerate") (hm : X.mg "enumerate" = none) (ha : PA X [a] ta) (hs : starEach [a] X.env = [(false, eval a X.env)] := by rfl) : PI X (.Tuple elts kk p0) (.Call (.Name "enumerate" p) [a] [] pos) (iEnum X.K ta) := by
  intro pins s σ H R I h
  refine Call_ (ld_blt I hg hm bt_enumerate (PyProof.Rows.callWith_type1 (thn (ha pos pins s σ H _ I h) fun us s1 ⟨vs, H1, I1, r1, q1⟩ => ?_) hs rfl))
  obtain ⟨l, xs, e, hq, q⟩ := q1
  subst e
  cases r1 with
  | cons r rr =>
    cases rr
    cases r
    obtain ⟨its, rv, pl, hz⟩ := I1.list hq
    refine call_enumerate_list pl.isList fun h' a1 a2 a3 a4 => wpAny_pyIter_enum a1 ?_
    refine ⟨s1.heap.objs.size + 1, [s1.heap.objs.size + 1, s1.heap.objs.size], _, _, H1, rfl, I1.kept (t' := s1.toks) a4, turn_enum l _ _, ⟨⟨_, a1⟩, a2⟩, fun b hb => ?_, q⟩
    have hb' : s1.heap.objs.size ≤ b := by simp at hb; rcases hb with rfl | rfl <;> omega
    exact I1.fpOk hb' (I1.hok.fresh hb')
theorem fi_enum {e : Expr} (hg : Gl X "enumerate") (hm : X.mg "enumerate" = none) (h : FE T X e f) (hs : starEach [e] X.env = [(false, eval e X.env)] := by rfl) : FIN T X (.Tuple elts kk p0) (.Call (.Name "enumerate" p) [e] [] pos) (srcE f) := by
  intro pins s st H R I hw
  refine pi_enum hg hm (pa_cons h pa_nil hs) hs pins s st H R I ?_
  obtain ⟨μ, ρ, σ, hE, hr, hp⟩ := hw
  refine ⟨μ, ρ, σ, hE, hr, hp.bind fun d σ1 μ1 v H1 _ e1 r1 q1 p1 => ?_⟩
  unfold enumK at p1
  cases el : lsOf σ1 d with
  | none => rw [el] at p1; exact p1.elim
  | some ds =>
    rw [el] at p1
    obtain ⟨l, vs, rfl, h1, h2⟩ := r1.ls q1 el
    refine ⟨l, vs, rfl, SqL.of h1, Post.here (R := SrcN T) p1 r1 fun μ2 H2 σ2 i ex r2 => ?_⟩
    unfold nxE
    cases el2 : lsOf σ2 d with
    | none => trivial
    | some xs =>
      obtain ⟨l', ws, e', h3, h4⟩ := r2.ls (Rep.mono ex _ _ q1) el2
      cases e'
      have hq2 : SqL X.K H2 l ws := SqL.of h3
      dsimp only
      cases ei : xs[i]? with
      | none =>
        dsimp only
        by_cases hi : i = xs.length
        · rw [if_pos hi]; exact ⟨ws, hq2, by rw [hi]; exact h4.length⟩
        · rw [if_neg hi]; trivial
      | some d' =>
        obtain ⟨x, hx, rx⟩ := h4.get ei
        refine ⟨⟨ws, x, hq2, hx⟩, fun z H' y => ?_⟩
        obtain ⟨q, x', hn', rfl, hall, rfl⟩ := y
        have hx' := hall ws hq2
        rw [hx] at hx'
        cases hx'
        refine ⟨ext_new hn', r2.fresh hn', ?_⟩
        rw [Rep]
        exact ⟨q, _, rfl, upd_same, RepL.cons (by rw [Rep]) (RepL.cons (Rep.mono (ext_new hn') _ _ rx) RepL.nil)⟩
end
end L4

/-! texts as lists of signs -/
namespace L4
open PySem PySem.Spec PyProof.Rows L2
open PySem.Builtin.Str (occurrences partsBetween subAt)
/-! joined texts -/
/-! numbers as texts -/
end L4

/-! a < b <= c as a test -/
namespace L4
open PySem PySem.Spec PyProof.Rows L2
section
variable {T : Tb} {X : Cx} {a b c : Expr} {fa fb fc : Ev → M D} {pos : Pos}
end
end L4

namespace L4
open PySem PySem.Spec PyProof.Rows L2
/-! o.f += e of ints -/
section
variable {T : Tb} {X : Cx}
/-! k not in d -/
/-! methods with defaults -/
def OkB (T : Tb) (P : Program) (w : World) (mg : Str → Option Value) (base : Heap) (k : Nat) (f : Addr) (ps : List Str) (dv : List Value) (fn : List D → M D) : Prop :=
  ∃ fd, Binds T.K fd ps [] ∧ Binds T.K fd ps dv ∧ FnOk P w T.K mg base (CXE P w) k f fd ps (spF T ps.length fn)
structure HasMD (K : PySem.W.Frag) (C : Addr) (x qual : Str) (st : Stmt) (ps : List Str) (dv : List Value) (f : Addr) : Prop where
  ex : ∃ fd, (∃ (oc : Value) (od : Option Addr) (dV kV doc pm : Value) (an : Option Addr) (cdv ct : Value) (osl : Array (Option Value)),
    fd = PySem.W.fnOf x qual (defArgs st) (defBody st) (defScope st) dV kV doc pm an cdv ct ∧ K.lookup f = some ⟨oc, od, .func fd, osl⟩ ∧ PySem.W.codeIn K cdv qual = true) ∧ Binds K fd ps [] ∧ Binds K fd ps dv
end
section
variable {P : Program} {w : World} {K : PySem.W.Frag} {mg : Str → Option Value} {base : Heap} {ca : Nat → Addr}
theorem OkB.hide {T : Tb} {k : Nat} {f : Addr} {ps : List Str} {dv : List Value} {fn : List D → M D} (h : OkB T P w mg base k f ps dv fn) : OkB T P w mg base k f ps dv (L4.hide fn) := by rw [hide_eq]; exact h
theorem OkB.frz {T : Tb} {k : Nat} {f : Addr} {ps : List Str} {dv : List Value} {fn : List D → M D} (h : OkB T P w mg base k f ps dv fn) : OkB T P w mg base k f ps dv (fun ds => L4.frz (fn ds)) := by
  obtain ⟨fd, h1, h2, h3⟩ := h
  exact ⟨fd, h1, h2, fok_frz h3⟩
end
section
variable {T : Tb} {X : Cx}
end
end L4

/-! d.get(k, v); a comprehension over pairs -/
namespace L4
open PySem PySem.Spec PyProof.Rows L2
section
variable {T : Tb} {X : Cx}
end
section
variable {X : Cx} {pins : List (Addr × Obj)} {st : St} {H : Hp} {s : Shared} {x z0 : Str} {M' : List Str} {ix : List Nat} {scope : Scope} {fp : List Addr}
end
section
variable {T : Tb} {X : Cx}
end
end L4

/-! sorted(xs) of ints -/
namespace L4
open PySem PySem.Spec PyProof.Rows L2
def srtI (l : List Int) : List Int := l.mergeSort fun a b => decide (a ≤ b)
theorem srtI_perm (l : List Int) : (srtI l).Perm l := List.mergeSort_perm l _
theorem srtI_pw (l : List Int) : (srtI l).Pairwise (· ≤ ·) := by
  have := List.pairwise_mergeSort (le := fun a b : Int => decide (a ≤ b)) (fun a b c h1 h2 => by simp at *; omega) (fun a b => by simp; omega) l
  exact this.imp fun h => by simpa using h
theorem pw_same : ∀ {l m : List Int}, l.Perm m → l.Pairwise (· ≤ ·) → m.Pairwise (· ≤ ·) → l = m
  | [], m, h, _, _ => by rw [List.nil_perm] at h; exact h.symm
  | a :: l, [], h, _, _ => by have := h.length_eq; simp at this
  | a :: l, b :: m, h, h1, h2 => by
    rw [List.pairwise_cons] at h1 h2
    have ha : a ∈ b :: m := h.subset List.mem_cons_self
    have hb : b ∈ a :: l := h.symm.subset List.mem_cons_self
    have e : a = b := by
      rcases List.mem_cons.mp ha with e | ha
      · exact e
      · rcases List.mem_cons.mp hb with e | hb
        · exact e.symm
        · have := h1.1 b hb; have := h2.1 a ha; omega
    subst e
    rw [pw_same (List.Perm.cons_inv h) h1.2 h2.2]
def rSrt (K : PySem.W.Frag) : List V → Hp → VK → Prop := fun xs H Q => ∃ (p : Addr) (is : List Int), xs = [.ref p] ∧ SqL K H p (is.map V.int) ∧ is.length < 64 ∧ ∀ l, H l = none → Q (.ref l) (upd H l (.lst ((srtI is).map V.int)))
section
variable {T : Tb} {X : Cx}
theorem call_srt : CallR X (.builtin "sorted") (rSrt X.K) := by
  intro pins s σ H xs us Q I r h
  obtain ⟨p, is, rfl, hq, h64, q⟩ := h
  obtain ⟨u, rfl, rx⟩ := vals1 r
  cases rx
  obtain ⟨its, r', pl, hz⟩ := I.list hq
  have hlen := r'.length
  rw [List.length_map] at hlen
  refine sorted_ints pl.isList (intsAre_of r') (by omega) fun out ns' a1 a2 a3 => ?_
  obtain ⟨e, he⟩ := sortedAll_at s.heap its out
  have en : ns' = srtI is := pw_same (a2.trans (srtI_perm is).symm) a3 (srtI_pw is)
  subst en
  have hl := (srtI_perm is).length_eq
  exact ⟨.ref (s.heap.objs.size + 1), _, I.laid (t' := s.toks) (fun _ _ => sortedAll_old) (Nat.le_succ _) (show ObjOk X.prog X.w _ _ _ (.lst ((srtI is).map V.int)) from ⟨by rw [List.length_map, hl]; exact Nat.le_trans (Nat.le_of_lt h64) (by decide), out.toList, e, vals_ints a1, by rw [Array.toArray_toList]; exact he⟩), rfl, q _ (I.hok.fresh (Nat.le_succ _))⟩
def oSorted (xs : List D) : M D := fun σ => match xs with
  | [x] => (match lsOf σ x with
    | some ys => (match intsOf ys with
      | some is => if is.length < 64 then mkLst ((srtI is).map D.int) σ else .bad
      | none => .bad)
    | none => .bad)
  | _ => .bad
theorem repL_int {μ : List Addr} {H : Hp} : ∀ is : List Int, RepL T μ H (is.map D.int) (is.map V.int)
  | [] => RepL.nil
  | i :: is => RepL.cons (by rw [Rep]) (repL_int is)
theorem snd_srt (hK : T.K = X.K) : SndCall T (rSrt X.K) oSorted := by
  intro E μ H σ xs vs Q r p h
  match xs with
  | [] => exact h.elim
  | [x] =>
    rw [RepL] at p
    obtain ⟨v, w, rfl, p1, p2⟩ := p
    rw [RepL] at p2; subst p2
    unfold oSorted at h
    cases e : lsOf σ x with
    | none => simp only [e] at h; exact h.elim
    | some ys =>
      simp only [e] at h
      cases ei : intsOf ys with
      | none => simp only [ei] at h; exact h.elim
      | some is =>
        simp only [ei] at h
        by_cases hc : is.length < 64
        · rw [if_pos hc] at h
          obtain ⟨b, us, rfl, h1, h2⟩ := r.ls p1 e
          obtain rfl := ints_rep h2 ei
          exact ⟨b, is, rfl, SqL.of h1, hc, fun l hl => new_lst h r (repL_int _) hl⟩
        · rw [if_neg hc] at h; exact h.elim
  | _ :: _ :: _ => exact h.elim
/-! d.update(e) -/
def mrgV (kvs more : List (Key × V)) : List (Key × V) := more.foldl (fun acc kv => putK acc kv.1 kv.2) kvs
def mrgD (kvs more : List (Key × D)) : List (Key × D) := more.foldl (fun acc kv => putDk acc kv.1 kv.2) kvs
theorem mrg_kv : ∀ {more : List (Key × V)} {rs : List (Key × Value)} {kvs : List (Key × V)} {vs : List (Key × Value)}, KV more rs → KV kvs vs → KV (mrgV kvs more) (merged vs rs) := by
  intro more
  induction more with
  | nil => intro rs kvs vs h1 h2; cases h1; exact h2
  | cons p more ih =>
    intro rs kvs vs h1 h2
    cases h1 with
    | cons q h1 =>
      obtain ⟨q1, q2⟩ := q
      have := ih h1 (h2.put p.1 q2)
      rw [q1] at this
      simpa [mrgV, merged, q1] using this
theorem mrg_len : ∀ (more kvs : List (Key × V)), (mrgV kvs more).length ≤ kvs.length + more.length := by
  intro more
  induction more with
  | nil => intro kvs; simp [mrgV]
  | cons p more ih =>
    intro kvs
    have h1 := ih (putK kvs p.1 p.2)
    have h2 := length_putK kvs p.1 p.2
    have h3 : mrgV kvs (p :: more) = mrgV (putK kvs p.1 p.2) more := rfl
    rw [h3, List.length_cons]
    omega
def rUpd : V → List V → Hp → VK → Prop := fun x vs H Q => ∃ a b kvs more, x = .ref a ∧ vs = [.ref b] ∧ a ≠ b ∧ H a = some (.dK kvs) ∧ H b = some (.dK more) ∧ kvs.length + more.length ≤ sizeLine ∧ Q .non (upd H a (.dK (mrgV kvs more)))
theorem mt_upd : MtR X "dict.update" rUpd := by
  intro pins s st H x vs v us Q I rx rv h
  obtain ⟨a, b, kvs, more, rfl, rfl, hab, hH, hH2, hl, q⟩ := h
  cases rx
  obtain ⟨u, rfl, ru⟩ := vals1 rv
  cases ru
  obtain ⟨z, hd, ws, rel, dd⟩ := dk_of I.hok hH
  obtain ⟨z2, hd2, ws2, rel2, dd2⟩ := dk_of I.hok hH2
  have e1 : kvs.length = ws.length := by unfold KV at rel; exact Paired.length rel
  have e2 : more.length = ws2.length := by unfold KV at rel2; exact Paired.length rel2
  refine call_meetsIn PySem.F.slot_dict_update dd.typeIs PySem.F.entry_dict_update (PySem.F.args_dict_update_2 _ _) (meets_dict_update (mixKind X.prog X.w) a b hab hd2) ⟨ws, ws2, dd, dd2, by omega, fun h' dd' _ hs => ?_⟩
  have he : ∃ q, h'.get? a = some q := let ⟨q, _, _, hq, _⟩ := dd'; ⟨q, hq⟩
  have hm := mrg_len more kvs
  exact ⟨.non, _, d_write I (by rw [hH]; exact True.intro) hs he (dk_new (by omega) hd (mrg_kv rel2 rel) dd'), rfl, q⟩
def apart (n : Nat) : D → Bool
  | .ref m => !(m == n)
  | _ => true
def oUpd (x : D) (xs : List D) : M D := fun σ => match x, xs with
  | .ref n, [y] => (match σ[n]? with
    | some (.dic kvs) => (match dcOf σ y with
      | some more => if (apart n y && decide (kvs.length + more.length ≤ cap)) = true then .ok .non (σ.set n (.dic (mrgD kvs more))) else .bad
      | none => .bad)
    | _ => .bad)
  | _, _ => .bad
theorem mrg_rep {μ : List Addr} {H : Hp} : ∀ {more : List (Key × D)} {us : List (Key × V)} {kvs : List (Key × D)} {vs : List (Key × V)}, RepK T μ H more us → RepK T μ H kvs vs → RepK T μ H (mrgD kvs more) (mrgV vs us) := by
  intro more
  induction more with
  | nil => intro us kvs vs h1 h2; unfold RepK at h1; cases h1; exact h2
  | cons p more ih =>
    intro us kvs vs h1 h2
    unfold RepK at h1
    cases h1 with
    | cons q h1 =>
      have := ih h1 (dput_rep h2 p.1 q.2)
      rw [q.1] at this
      simpa [mrgD, mrgV, q.1] using this
theorem snd_upd : SndMt T rUpd oUpd := by
  intro E μ H σ x xs v vs Q r p q h
  cases x with
  | ref n =>
    match xs with
    | [] => exact h.elim
    | [y] =>
      rw [RepL] at q
      obtain ⟨w, z, rfl, q1, q2⟩ := q
      rw [RepL] at q2; subst q2
      unfold oUpd at h
      cases el : σ[n]? with
      | none => simp only [el] at h; exact h.elim
      | some ob =>
        cases ob with
        | dic kvs =>
          simp only [el] at h
          cases ed : dcOf σ y with
          | none => simp only [ed] at h; exact h.elim
          | some more =>
            simp only [ed] at h
            by_cases hc : (apart n y && decide (kvs.length + more.length ≤ cap)) = true
            · rw [if_pos hc] at h
              simp only [Bool.and_eq_true, decide_eq_true_eq] at hc
              obtain ⟨a, rfl, hn, us, g1, g2⟩ := r.at p el
              obtain ⟨b, ws, rfl, g3, g4⟩ := rel_dc r q1 ed
              have l1 : us.length = kvs.length := by unfold RepK at g2; exact (Paired.length g2).symm
              have l2 : ws.length = more.length := by unfold RepK at g4; exact (Paired.length g4).symm
              have hab : a ≠ b := by
                cases y with
                | ref m =>
                  rw [Rep] at q1
                  obtain ⟨b', e, hm⟩ := q1
                  cases e
                  intro e
                  subst e
                  have hmn : m = n := nodup_at r.nd hm hn
                  have := hc.1
                  simp [apart, hmn] at this
                | dic ks ds =>
                  rw [Rep] at q1
                  obtain ⟨b', kvs', e, hb, _⟩ := q1
                  cases e
                  intro e
                  subst e
                  exact hb (List.mem_of_getElem? hn)
                | _ => cases ed
              refine ⟨a, b, us, ws, rfl, rfl, hab, g1, g3, by rw [l1, l2]; exact Nat.le_trans hc.2 (by decide), ?_⟩
              have wr := r.write (o := .dK (mrgV us ws)) (ob := .dic (mrgD kvs more)) hn ⟨_, upd_same, by
                have ex : Ext μ H μ (upd H a (.dK (mrgV us ws))) := ext_write (List.mem_of_getElem? hn) g1 (fun _ z => by cases z) (fun _ _ z => by cases z)
                exact mrg_rep (RepK.mono ex g4) (RepK.mono ex g2)⟩
              exact h _ _ _ wr.1 wr.2 (by rw [Rep])
            · rw [if_neg hc] at h; exact h.elim
        | lst ys => simp only [el] at h; exact h.elim
        | ins c fs => simp only [el] at h; exact h.elim
    | _ :: _ :: _ => exact h.elim
  | _ => exact h.elim
end
theorem boot_sorted : bootBuiltins "sorted" = some (.builtin "sorted") := by decide +kernel
end L4

/-! list(d) of a dict -/
namespace L4
open PySem PySem.Spec PyProof.Rows L2
theorem vals_keys : ∀ {ks : List Key} {vs : List Value}, vs.length = ks.length → (∀ (j : Nat) (v : Value) (k : Key), vs[j]? = some v → ks[j]? = some k → RelV (kV k) v) → Vals (ks.map kV) vs
  | [], [], _, _ => .nil
  | [], _ :: _, h, _ => by simp at h
  | _ :: _, [], h, _ => by simp at h
  | k :: ks, v :: vs, h, hv => .cons (hv 0 v k rfl rfl) (vals_keys (by simpa using h) fun j v k e1 e2 => hv (j + 1) v k e1 e2)
theorem key_rel {P : Program} {w : World} {k : Key} {v : Value} (h : (mixKind P w).is k v = true) : RelV (kV k) v := by
  rw [mixKind_is] at h
  rcases keyIs_shape h with ⟨i, t, rfl, rfl⟩ | ⟨x, t, rfl, rfl⟩
  · exact ⟨t, rfl⟩
  · exact ⟨t, rfl⟩
theorem kv_keys : ∀ {kvs : List (Key × V)} {ws : List (Key × Value)}, KV kvs ws → ws.map (·.1) = kvs.map (·.1)
  | [], _, h => by cases h; rfl
  | p :: kvs, _, h => by
    cases h with
    | cons q h => simp only [List.map_cons]; rw [kv_keys h, q.1]
section
variable {T : Tb} {X : Cx}
def keyV : Key → D
  | .inl i => .int i
  | .inr x => .str x
end
end L4

/-! sorted(d) of a dict with int keys -/
namespace L4
open PySem PySem.Spec PySem.Calls PySem.W PyProof.Rows PyProof.V
/-- what a walk collects, and that no object is lost and the heap has not become smaller -/
theorem collect_more {prog : Program} {w : World} {A : Around} {E : Value → Shared → Prop} {s : Shared} {R : List Value → Shared → Prop} {Ty : String} {r d : Addr} {n : Nat} {P : Nat → Value → Prop} {OK : Heap → Prop}
    (K : KdlSrc prog w Ty r d n P OK) (hh : A.handled = none) (hok : OK s.heap) (hn : n ≤ sizeLine)
    (fin : ∀ (h' : Heap) (tk : Nat) (acc : Array Value), (∀ b o, s.heap.get? b = some o → h'.get? b = some o) → s.heap.objs.size ≤ h'.objs.size → ItemsOf P acc n → R acc.toList { s with heap := h', toks := tk }) :
    wpAny (model prog w) A (collect (.ref r)) R E s := by
  have lt := K.there _ hok
  -- the list that takes the items
  let S : Addr := s.heap.objs.size
  let Z : Result → Shared → Prop := fun q s' => ∃ (h' : Heap) (tk : Nat) (acc : Array Value) (c : Nat), q = .ok (.ret (.ref S)) ∧ s' = { s with heap := h', toks := tk } ∧ (∀ b o, s.heap.get? b = some o → h'.get? b = some o) ∧
    h'.get? S = some { cls := .type "list", dict := none, data := .seq acc c, slots := #[] } ∧ ItemsOf P acc n
  have close : ∀ {h' : Heap} {tk c : Nat} {acc : Array Value}, (∀ b o, s.heap.get? b = some o → h'.get? b = some o) → h'.get? S = some { cls := .type "list", dict := none, data := .seq acc c, slots := #[] } → ItemsOf P acc n → R acc.toList { s with heap := h', toks := tk } :=
    fun kp g it => fin _ _ _ kp (Nat.le_of_lt (Heap.lt_size g)) it
  have at0 : (s.heap.push { cls := .type "list", data := .seq ([] : List Value).toArray }).get? S = some { cls := .type "list", data := .seq #[] } := Heap.get?_push_size _ rfl
  have run := kdl_extend (A := A) (s := { s with heap := s.heap.push { cls := .type "list", data := .seq ([] : List Value).toArray } }) (R := Z) K hh (K.keep _ _ hok fun b _ o e => Heap.get?_push_of_some _ e) S (Nat.ne_of_gt lt.1) (Nat.ne_of_gt lt.2) (.ref S) 0 at0
    (fun h' tk acc c kp g it => ⟨h', tk, acc, c, rfl, rfl, fun b o e => kp b o (Nat.ne_of_lt (Heap.lt_size e)) (Heap.get?_push_of_some _ e), g, it⟩) hn
  unfold collect
  refine wpAny_bind (wpAny_runValue (codeAny_builtin entry_proto_collect' ?_))
  rw [Around.under_plainId PySem.F.plain_proto_collect _]
  show wpAny _ A.in1 (newList [] >>= fun l => again (.builtin "list.__iadd__" ⟨[l, .ref r], []⟩)) _ _ s
  refine wpAny_bind (wpAny_newObj_type (wpAny_pure ⟨plainId_quiet PySem.F.plain_list_iadd _, codeAny_builtin entry_list_iadd' ?_⟩))
  rw [Around.under_plainId PySem.F.plain_list_iadd _]
  show wpAny _ A.in1 (Builtin.List.listExtendWith (.ref S) (.ref r) (.ref S)) _ _ _
  refine wpAny_mono run (fun f s' x => ?_) (fun e s' x => by obtain ⟨_, _, _, _, z, _⟩ := x; cases z)
  cases f with
  | done f =>
    obtain ⟨h', tk, acc, c, e, rfl, kp, g, it⟩ := x
    cases e
    exact wpAny_bind (wpAny_load g (wpAny_pure (close kp g it)))
  | again c1 =>
    refine ⟨x.1, codeAny_mono x.2 fun q s2 y => ?_⟩
    obtain ⟨h', tk, acc, c, rfl, rfl, kp, g, it⟩ := y
    exact wpAny_bind (wpAny_load g (wpAny_pure (close kp g it)))
end L4
namespace L4
open PySem PySem.Spec PyProof.Rows L2
def rSrtD : List V → Hp → VK → Prop := fun xs H Q => ∃ (a : Addr) (kvs : List (Key × V)) (is : List Int), xs = [.ref a] ∧ H a = some (.dK kvs) ∧ kvs.map (·.1) = is.map Sum.inl ∧ is.length < 64 ∧ ∀ l, H l = none → Q (.ref l) (upd H l (.lst ((srtI is).map V.int)))
theorem ints_vals : ∀ {is : List Int} {vs : List Value}, Vals ((is.map (Sum.inl : Int → Key)).map kV) vs → IntsAre vs is
  | [], _, h => by cases h; exact .nil
  | i :: is, _, h => by
    cases h with
    | cons q h =>
      obtain ⟨t, rfl⟩ := q
      exact .cons i t (ints_vals h)
section
variable {T : Tb} {X : Cx}
theorem call_srtD (hc : X.calm = true) : CallR X (.builtin "sorted") rSrtD := by
  intro pins s σ H xs us Q I r h
  obtain ⟨a, kvs, is, rfl, hH, hks, h64, q⟩ := h
  obtain ⟨u, rfl, rx⟩ := vals1 r
  cases rx
  obtain ⟨z, hd, ws, rel, dd⟩ := dk_of I.hok hH
  obtain ⟨ep, hat⟩ := dd.dictAt
  have hk := kv_keys rel
  have hlw : ws.length = kvs.length := by have := congrArg List.length hk; simpa using this
  have hlk : kvs.length = is.length := by have := congrArg List.length hks; simpa using this
  have hn : ws.length ≤ sizeLine := by omega
  refine Calls.call_function_entry kind_sorted plain_sorted entry_sorted (args_sorted1 _) ?_
  unfold Builtin.«sorted»
  refine wpAny_bind (m := checkCount "sorted" 1 1 _) (wpAny_pure ?_)
  refine wpAny_bind (collect_more (A := X.A.in1) (PySem.W.kdl_dict (knd := mixKind X.prog X.w) (kvs := ws) (ep := ep) hd) (I.ok.hd hc) hat hn fun h' tk acc kp hsz hacc => ?_)
  have hl : acc.toList.length = ws.length := by rw [Array.length_toList]; exact hacc.1
  have hv : Vals ((ws.map (·.1)).map kV) acc.toList := vals_keys (by rw [List.length_map]; exact hl) fun j v k e1 e2 => by
    obtain ⟨k', x, hx, hk'⟩ := hacc.2 j v (by rw [← Array.getElem?_toList]; exact e1)
    rw [List.getElem?_map, hx] at e2
    cases e2
    exact key_rel hk'
  rw [hk, hks] at hv
  have hI := ints_vals hv
  refine wpAny_bind (wpAny_newList ?_ (by rw [hl]; exact hn))
  have hoL : (h'.push (seqObj "list" acc.toList.toArray 0)).get? h'.objs.size = some (seqObj "list" acc.toList.toArray 0) := Heap.get?_push_size _ rfl
  refine wpAny_bind (wpAny_holding (wpAny_call_entry slot_list_sort ⟨_, hoL, rfl⟩ entry_list_sort (list_sort_tree hoL hI (by omega) fun out ns' a1 a2 a3 => ⟨_, rfl, ?_⟩) (args_list_sort _)))
  refine wpAny_pure ⟨_, rfl, ?_⟩
  have en : ns' = srtI is := pw_same (a2.trans (srtI_perm is).symm) a3 (srtI_pw is)
  subst en
  have hls := (srtI_perm is).length_eq
  obtain ⟨e, he⟩ := sortedHeap_at (out := out) hoL
  exact ⟨.ref h'.objs.size, _, I.laid (t' := tk) (fun b o eb => by
    have lt : b < h'.objs.size := Heap.lt_size (kp b o eb)
    rw [sortedHeap_old (Nat.ne_of_lt lt) (by rw [size_push']; exact Nat.lt_succ_of_lt lt)]
    exact Heap.get?_push_of_some _ (kp b o eb)) hsz (show ObjOk X.prog X.w _ _ _ (.lst ((srtI is).map V.int)) from ⟨by rw [List.length_map, hls]; exact Nat.le_trans (Nat.le_of_lt h64) (by decide), out.toList, e, vals_ints a1, by rw [Array.toArray_toList]; exact he⟩), rfl, q _ (I.hok.fresh hsz)⟩
def keysI : List (Key × D) → Option (List Int)
  | [] => some []
  | (.inl i, _) :: r => (keysI r).map (i :: ·)
  | _ :: _ => none
theorem keysI_rep {μ : List Addr} {H : Hp} : ∀ {kvs : List (Key × D)} {us : List (Key × V)} {is : List Int}, RepK T μ H kvs us → keysI kvs = some is → us.map (·.1) = is.map Sum.inl
  | [], _, is, h, e => by unfold RepK at h; cases h; cases e; rfl
  | (k, d) :: kvs, _, is, h, e => by
    unfold RepK at h
    cases h with
    | cons q h =>
      cases k with
      | inr x => cases e
      | inl i =>
        unfold keysI at e
        cases ek : keysI kvs with
        | none => rw [ek] at e; cases e
        | some js =>
          rw [ek] at e
          cases e
          simp only [List.map_cons]
          rw [keysI_rep h ek, ← q.1]
def oSortedD (xs : List D) : M D := fun σ => match xs with
  | [x] => (match dcOf σ x with
    | some kvs => (match keysI kvs with
      | some is => if is.length < 64 then mkLst ((srtI is).map D.int) σ else .bad
      | none => .bad)
    | none => .bad)
  | _ => .bad
theorem snd_srtD : SndCall T rSrtD oSortedD := by
  intro E μ H σ xs vs Q r p h
  match xs with
  | [] => exact h.elim
  | [x] =>
    rw [RepL] at p
    obtain ⟨v, w, rfl, p1, p2⟩ := p
    rw [RepL] at p2; subst p2
    unfold oSortedD at h
    cases e : dcOf σ x with
    | none => simp only [e] at h; exact h.elim
    | some kvs =>
      simp only [e] at h
      cases ei : keysI kvs with
      | none => simp only [ei] at h; exact h.elim
      | some is =>
        simp only [ei] at h
        by_cases hc : is.length < 64
        · rw [if_pos hc] at h
          obtain ⟨a, us, rfl, g1, g2⟩ := rel_dc r p1 e
          exact ⟨a, us, is, rfl, g1, keysI_rep g2 ei, hc, fun l hl => new_lst h r (repL_int _) hl⟩
        · rw [if_neg hc] at h; exact h.elim
  | _ :: _ :: _ => exact h.elim
/-- sorted of a list of ints, or of a dict with int keys -/
def rSrtA (K : PySem.W.Frag) : List V → Hp → VK → Prop := fun xs H Q => rSrt K xs H Q ∨ rSrtD xs H Q
theorem call_srtA (hc : X.calm = true) : CallR X (.builtin "sorted") (rSrtA X.K) := by
  intro pins s σ H xs us Q I r h
  rcases h with h | h
  · exact call_srt pins s σ H xs us Q I r h
  · exact call_srtD hc pins s σ H xs us Q I r h
def oSrtA (xs : List D) : M D := fun σ => match xs with
  | [x] => (match lsOf σ x with
    | some _ => oSorted [x] σ
    | none => oSortedD [x] σ)
  | _ => .bad
theorem snd_srtA (hK : T.K = X.K) : SndCall T (rSrtA X.K) oSrtA := by
  intro E μ H σ xs vs Q r p h
  match xs with
  | [] => exact h.elim
  | [x] =>
    unfold oSrtA at h
    cases e : lsOf σ x with
    | some ys => simp only [e] at h; exact .inl (snd_srt hK E μ H σ [x] vs Q r p h)
    | none => simp only [e] at h; exact .inr (snd_srtD E μ H σ [x] vs Q r p h)
  | _ :: _ :: _ => exact h.elim
end
end L4

/-! a method whose defaults are left out -/
namespace L4
open PySem PySem.Spec PyProof.Rows L2
section
variable {T : Tb} {X : Cx}
end
end L4

namespace L2
open PySem PySem.Spec PyProof.Rows



end L2

/-! a dict display with written keys -/
namespace L4
open PySem PySem.Spec PyProof.Rows L2
section
variable {T : Tb} {X : Cx}
inductive Dsp (T : Tb) (X : Cx) : List (Option Expr) → List Expr → List Key → (Ev → M (List D)) → Prop
  | nil : Dsp T X [] [] [] aNil
  | cons {k v : Expr} {kk : Key} {f : Ev → M D} {ks : List (Option Expr)} {vs : List Expr} {kks : List Key} {fs : Ev → M (List D)} (hk : FE T X k (eC (keyV kk))) (hv : FE T X v f) (r : Dsp T X ks vs kks fs) : Dsp T X (some k :: ks) (v :: vs) (kk :: kks) (aCons f fs)
end
end L4

/-! An exception that comes out of a comprehension's element. -/
namespace L4
open PySem PySem.Spec PyProof.Rows L2
section
variable {T : Tb} {X : Cx} {pins : List (Addr × Obj)} {st : St} {H : Hp} {s : Shared}
variable {N' : List Str} {scope : Scope} {cl : List (Str × Addr)} {H3 : Hp} {s3 : Shared} {fp : List Addr} {xe : Value → Shared → Prop}
end
section
variable {T : Tb} {X : Cx}
end
/-! what such a comprehension comes to -/
section
variable {ρ : Ev} {σ : Sto}
end
end L4

/-! x.replace(y, z, 1): the two texts must be unlike things, so a token must have been taken ahead: a test against a written number does. -/
namespace L4
open PySem PySem.Spec PyProof.Rows L2 Builtin Builtin.Str
def rep1 (x y z : Str) : Str := if ((occurrences x y 0 x.length 1).isEmpty || (y.length == 0 && z.length == 0)) = true then x else glued z (partsBetween x (occurrences x y 0 x.length 1) y.length)
noncomputable def rpOk (x y z : Str) : Bool := hide (!(y == z) && (decide (x.length + (x.length + 1) * z.length ≤ 100000) && decide ((rep1 x y z).length ≤ 100000)))
noncomputable def rpK (y z : Str) (d : D) : M D := fun σ => match d with
  | .str x => if rpOk x y z = true then .ok (.str (rep1 x y z)) σ else .bad
  | _ => .bad
noncomputable def eRep1 (y z : Str) (f : Ev → M D) : Ev → M D := fun ρ => bnd (f ρ) (rpK y z)
section
variable {T : Tb} {X : Cx} {a b e o : Expr} {fa fb f : Ev → M D} {pos apos cpos : Pos}
end
section
variable {ρ : Ev} {σ : Sto}
@[simp] theorem eRep1_ap (y z : Str) (f : Ev → M D) : eRep1 y z f ρ σ = (f ρ σ).bind (rpK y z) := nr rfl
end
end L4

/-! slices of texts; a text so many times -/
namespace L4
open PySem PySem.Spec PyProof.Rows L2
section
variable {T : Tb} {X : Cx}
def cutT (x : D) (lo hi : Option Int) : M D := fun σ => match x with
  | .str z => if z.length ≤ 100000 then .ok (.str (Txt.slice z lo hi)) σ else .bad
  | _ => .bad
def st1K (x : D) (hi : M (Option Int)) (lo : Option Int) : M D := bnd hi (cutT x lo)
def st0K (lo hi : M (Option Int)) (x : D) : M D := bnd lo (st1K x hi)
/-- t[lo:hi] of a text -/
def eSlT (f : Ev → M D) (lo hi : PF) : Ev → M D := fun ρ => bnd (f ρ) (st0K (ePart lo ρ) (ePart hi ρ))
/-! x * n -/
end
section
variable {ρ : Ev} {σ : Sto}
@[simp] theorem eSlT_ap (f : Ev → M D) (lo hi : PF) : eSlT f lo hi ρ σ = (f ρ σ).bind (st0K (ePart lo ρ) (ePart hi ρ)) := nr rfl
@[simp] theorem st0K_ap (lo hi : M (Option Int)) (x : D) : st0K lo hi x σ = (lo σ).bind (st1K x hi) := nr rfl
@[simp] theorem st1K_ap (hi : M (Option Int)) (x : D) (lo : Option Int) : st1K x hi lo σ = (hi σ).bind (cutT x lo) := nr rfl
end
end L4

/-! An exception of an own class whose __init__ keeps a number. -/
namespace L4
open PySem PySem.Spec PyProof.Rows L2
/-- the class: its own __init__ at fI -/
def excII (K : PySem.W.Frag) (C : Addr) (bmB : List Value) (newId : String) (fI : Addr) : Bool := match K.lookup C with
  | some ⟨.type "type", _, .cls cd, sl⟩ => (match cd.mro, sl.toList with
    | .ref D :: bm, [_, _, _, _, some (.builtin n), _] => ((D == C && n == newId) && (!cd.hasDel && cd.hasDict)) && ((PySem.W.tailIn K bmB bm && PySem.W.nsOkIn K cd.ns) && PySem.W.nsIn K cd.ns "__init__" == some (some (.ref fI)))
    | _, _ => false)
  | _ => false
theorem ns_at {K : PySem.W.Frag} {h : Heap} {N : Addr} {x : Str} {v : Value} {m : Str → Option Value} (X : K.In h) (G : h.Ns N m) (e : PySem.W.nsIn K N x = some (some v)) : m x = some v := by
  obtain ⟨u, is, ip, hu, hd, _, hf⟩ := G
  unfold PySem.W.nsIn at e
  split at e
  · rename_i c1 d1 es1 n1 sl1 q1
    have z := (X _ _ q1).symm.trans hu
    cases z; cases hd
    split at e
    · rename_i en he
      cases e
      rw [← hf]; unfold nsFind findBy; rw [← Array.find?_toList, he]; rfl
    · split at e <;> cases e
  · cases e
theorem exc_objI {K : PySem.W.Frag} {h : Heap} {C fI : Addr} {bmB : List Value} {newId : String} (KX : K.In h) (hq : excII K C bmB newId fI = true) :
    ∃ bm N nm qn bs sn sub ab col dd k0 k1 k2 k3 k5 mN, h.get? C = some (excClassObj nm qn C N bs bm true sn sub ab col dd k0 k1 k2 k3 k5 newId) ∧ h.Ns N mN ∧ mN "__init__" = some (.ref fI) ∧ OwnTail h bmB bm := by
  unfold excII at hq
  split at hq
  · rename_i dd data sl lk
    split at hq
    · rename_i C2 bm k0 k1 k2 k3 nid k5 emro esl
      have hq1 : (((C2 = C ∧ nid = newId) ∧ (data.hasDel = false ∧ data.hasDict = true)) ∧ ((PySem.W.tailIn K bmB bm = true ∧ PySem.W.nsOkIn K data.ns = true) ∧ PySem.W.nsIn K data.ns "__init__" = some (some (.ref fI)))) := by
        simpa [Bool.and_eq_true, Bool.not_eq_true'] using hq
      obtain ⟨⟨⟨c1, c2⟩, c3, c7⟩, ⟨c4, c5⟩, c6⟩ := hq1
      subst c1; subst c2
      obtain ⟨nm, bs, mro, ns, qn, hd, sn, sub, ab, col, del⟩ := data
      cases emro; cases c3; cases c7
      obtain ⟨l⟩ := sl
      cases esl
      exact ⟨bm, ns, nm, qn, bs, sn, sub, ab, col, dd, k0, k1, k2, k3, k5, _, KX _ _ lk, .of_isNs (PySem.W.isNs_of_in KX c5), ns_at KX (.of_isNs (PySem.W.isNs_of_in KX c5)) c6, PySem.W.tail_of_in KX c4⟩
    · cases hq
  · cases hq
section
variable {prog : Program} {w : World} {A : Around} {E : Value → Shared → Prop} {h : Heap} {g : Array GenState} {d : Drawn} {t : Nat} {os : OsState}
variable {nm qn : Str} {C N : Addr} {bs bm bmB : List Value} {hdct : Bool} {sn : List Str} {sub : List Value} {ab : Bool} {col : Option Bool} {dd : Option Addr} {k0 k1 k2 k3 k5 : Option Value} {B newId initId : String}
theorem tcall_own (F : ExcBaseFacts B newId initId bmB) (T : OwnTail h bmB bm) {mN : Str → Option Value} {us : List Value} {fI : Addr} {oI : Obj} {Q : PySem.Fin → Shared → Prop}
    (hC : h.get? C = some (excClassObj nm qn C N bs bm hdct sn sub ab col dd k0 k1 k2 k3 k5 newId)) (hn : h.Ns N mN) (hi : mN "__init__" = some (.ref fI)) (hfI : h.get? fI = some oI) (hfc : oI.cls = .type "function") (hl : us.length ≤ sizeLine)
    (hq : ∀ h' e, Heap.MadeExcOf h h' e (.ref C) us → wpAny (model prog w) A (call (.ref fI) (.ref e :: us)) (fun r s' => r = .none ∧ Q (.done (.ret (.ref e))) s') E ⟨h', g, d, t, os⟩) :
    wpAny (model prog w) A (Builtin.«type.__call__» ⟨.ref C :: us, []⟩) Q E ⟨h, g, d, t, os⟩ := by
  repeat (first | with_reducible refine wpAny_madeBy_exc hC ?_ | with_reducible refine wpAny_loadPart_at hC ?_ | wp_step)
  refine codeAny_call_builtin_code (Code.quiet_builtin _ F.quiet) (wpAny_check_new_subT F T hC (codeAny_exc_new_subT F T hC ?_ hl))
  show wpAny _ _ _ _ _ _
  let oT : Obj := { cls := .type "tuple", data := .seq us.toArray }
  let oE : Obj := { cls := .ref C, data := .fields #[.ref h.objs.size, .none, .none, .none, .bool false, .none] }
  have kp : ∀ b o, h.get? b = some o → ((h.push oT).push oE).get? b = some o := fun b o e => Heap.get?_push_of_some _ (Heap.get?_push_of_some _ e)
  have gE : ((h.push oT).push oE).get? (h.objs.size + 1) = some oE := by heap_get
  have gC := kp _ _ hC
  have nsC : ((h.push oT).push oE).Ns N mN := let ⟨o, es, ep, e, r⟩ := hn; ⟨o, es, ep, kp _ _ e, r⟩
  have cc : (Value.ref C :: bm).contains (.ref C) = true := by simp
  unfold isInstance
  repeat (first | with_reducible refine wpAny_loadPart_at gE ?_ | (with_reducible refine wpAny_isSubtype_exc gC ?_; rw [cc]) | wp_step)
  show wpAny _ _ (typeLookup (.ref C) _) _ _ _
  refine wpAny_typeLookup_tail gC nsC (T.keeps kp) F.mroIs F.init.lookup ?_
  rw [hi]
  refine wpAny_holding (wpAny_bind ?_)
  unfold bindSpecial
  refine wpAny_bind (wpAny_typeOf (T := "function") ⟨_, kp _ _ hfI, hfc⟩ ?_)
  rw [if_pos (by decide)]
  have made : Heap.MadeExcOf h ((h.push oT).push oE) (h.objs.size + 1) (.ref C) us := ⟨kp, Heap.get?_none_of_le (Nat.le_succ _), h.objs.size, gE, Heap.get?_none_of_le (Nat.le_refl _), Heap.get?_push_of_some _ (Heap.get?_push_at rfl rfl)⟩
  refine wpAny_pure (wpAny_bind (wpAny_mono (hq _ (h.objs.size + 1) made) (fun r s' hr => ?_) fun _ _ z => z))
  obtain ⟨rfl, hQ⟩ := hr
  wp_walk
  exact hQ
theorem call_own (F : ExcBaseFacts B newId initId bmB) (T : OwnTail h bmB bm) {mN : Str → Option Value} {us : List Value} {fI : Addr} {oI : Obj} {Q : Value → Shared → Prop}
    (hC : h.get? C = some (excClassObj nm qn C N bs bm hdct sn sub ab col dd k0 k1 k2 k3 k5 newId)) (hn : h.Ns N mN) (hi : mN "__init__" = some (.ref fI)) (hfI : h.get? fI = some oI) (hfc : oI.cls = .type "function") (hl : us.length ≤ sizeLine)
    (hq : ∀ h' e, Heap.MadeExcOf h h' e (.ref C) us → wpAny (model prog w) (A.under (.builtin "type.__call__" ⟨.ref C :: us, []⟩)) (call (.ref fI) (.ref e :: us)) (fun r s' => r = .none ∧ Q (.ref e) s') E ⟨h', g, d, t, os⟩) :
    wpAny (model prog w) A (call (.ref C) us) Q E ⟨h, g, d, t, os⟩ := by
  have f1 := tc_lookup
  have f2 := tc_bind (.ref C)
  have hT : (⟨h, g, d, t, os⟩ : Shared).TypeIs (.ref C) "type" := ⟨_, hC, rfl⟩
  refine wpAny_call (codeAny_of_tree (show wpAny _ _ (callAny (.ref C) _) _ _ _ from ?_))
  repeat (any_goals (first | assumption | wp_step | with_reducible refine wpAny_loadPart_at hC ?_))
  exact ⟨rfl, codeAny_call_builtin_at (Code.quiet_builtin _ (by decide +kernel)) entry_typeCall (wpAny_check_type_call_sub hC (tcall_own F T hC hn hi hfI hfc hl fun h' e hm => hq h' e hm))⟩
end
/-- an exception that no frame has noted, as it stands -/
def RawX (C ea : Addr) (dd : Option Addr) : Heap → Prop := fun h => ∃ oe vs a0, h.get? ea = some oe ∧ oe.cls = .ref C ∧ oe.dict = dd ∧ oe.data = .fields vs ∧ 1 < vs.size ∧ vs[0]? = some a0 ∧ vs[1]? = some .none
theorem raw_stay {C a : Addr} {dd : Option Addr} : ∀ h1 h2 : Heap, RawX C a dd h1 → (∀ u, h1.get? a = some u → h2.get? a = some u) → RawX C a dd h2 := fun h1 h2 ⟨u, vs, a0, hu, q⟩ k => ⟨u, vs, a0, k u hu, q⟩
section
variable {T : Tb} {X : Cx} {pins : List (Addr × Obj)} {st : St} {H : Hp} {s : Shared}
/-- a tracked thing changes -/
theorem retrack {ea : Addr} {φ φ' : Heap → Prop} {h' : Heap} {t' : Nat} {o' : Obj} (I : Inv X pins st H s) (hH : H ea = some (.ext φ)) (k : ∀ b o, b ≠ ea → s.heap.get? b = some o → h'.get? b = some o) (ho : h'.get? ea = some o') (hφ : φ' h')
    (hs : ∀ h1 h2 : Heap, φ' h1 → (∀ u, h1.get? ea = some u → h2.get? ea = some u) → φ' h2) : Inv X pins st (upd H ea (.ext φ')) { s with heap := h', toks := t' } := by
  have n0 : ∀ b, H b = none → b ≠ ea := fun b e z => by rw [z, hH] at e; cases e
  have nt : ∀ b u, H b = some u → (∀ ψ, u ≠ .ext ψ) → b ≠ ea := fun b u e n z => by rw [z, hH] at e; cases e; exact n _ rfl
  refine ⟨I.ok, I.os, I.bare, ⟨fun b o e n hb hx => ?_, fun b o e n hb hx => ?_, fun b o e n hx => ?_, fun b o e hx => ?_, fun b xs e => ?_, fun b ob u e => ?_, fun b ps e => ?_⟩, ?_, fun x c e => ?_, ?_, fun x c e => ?_, fun p hp => ?_, fun b u e => ?_, I.len⟩
  · exact k _ _ (n0 _ (I.base.free b o e n hx)) (I.base.keep b o e n hb hx)
  · obtain ⟨sl, q⟩ := I.base.slot b o e n hb hx
    exact ⟨sl, k _ _ (n0 _ (I.base.free b o e n hx)) q⟩
  · have q := I.base.free b o e n hx
    rw [upd_ne (n0 _ q)]; exact q
  · obtain ⟨o2, q⟩ := I.base.there b o e hx
    by_cases hb : b = ea
    · exact ⟨o', by rw [hb]; exact ho⟩
    · exact ⟨o2, k _ _ hb q⟩
  · have q := I.base.tups b xs e; rw [upd_ne (nt b _ q (fun _ z => by cases z))]; exact q
  · have q := I.base.frzs b ob u e; rw [upd_ne (nt b _ q (fun _ z => by cases z))]; exact q
  · obtain ⟨more, q⟩ := I.base.tbls b ps e; exact ⟨more, by rw [upd_ne (nt b _ q (fun _ z => by cases z))]; exact q⟩
  · obtain ⟨m, ⟨o, es, ep, e1, e2⟩, hl⟩ := I.loc
    refine ⟨m, ⟨o, es, ep, k _ _ (n0 _ I.free) e1, e2⟩, fun i x v h1 h2 h3 => ?_⟩
    obtain ⟨u, r, lk⟩ := hl i x v h1 h2 h3
    refine ⟨u, r, ?_⟩
    rcases lk with q | ⟨q1, c, q2, o2, q3, q4⟩
    · exact .inl q
    · exact .inr ⟨q1, c, q2, o2, k _ _ (n0 _ (I.freeC _ _ q2)) q3, q4⟩
  · obtain ⟨v, o2, q3, q4⟩ := I.cell x c e
    exact ⟨v, o2, k _ _ (n0 _ (I.freeC _ _ e)) q3, q4⟩
  · rw [upd_ne (n0 _ I.free)]; exact I.free
  · rw [upd_ne (n0 _ (I.freeC _ _ e))]; exact I.freeC _ _ e
  · obtain ⟨p1, p2, p3⟩ := I.pin p hp
    exact ⟨k _ _ (n0 _ p2) p1, by rw [upd_ne (n0 _ p2)]; exact p2, p3⟩
  · by_cases hb : b = ea
    · subst hb; rw [upd_same] at e; cases e
      exact ⟨hφ, ⟨o', ho⟩, hs⟩
    · rw [upd_ne hb] at e
      refine (I.hok b u e).stay (fun c v hc q => k _ _ ?_ q) (fun c q => ?_) fun c xs q => ?_
      · rcases hc with rfl | hc
        · exact hb
        · exact nt c _ hc (fun _ z => by cases z)
      · rw [upd_ne (nt c _ q (fun _ z => by cases z))]; exact q
      · rw [upd_ne (nt c _ q (fun _ z => by cases z))]; exact q
end
end L4

namespace L4
open PySem PySem.Spec PyProof.Rows L2
section
variable {X : Cx}
theorem upd_id {H : Hp} {a : Addr} {u : HO} (h : H a = some u) : upd H a u = H := by
  funext b
  unfold upd
  by_cases hb : b = a
  · rw [if_pos hb, hb, h]
  · rw [if_neg hb]
def tFp (i : Nat) : TE := fun st H Q => ∃ n : Nat, st[i]? = some (some (.int n)) ∧ n < 10 ∧ ∀ y, Q (.str y) H
theorem log_10 {n : Nat} (h : n < 10) : (n : Int).natAbs.log2 < 1920 := by
  match n, h with
  | 0, _ | 1, _ | 2, _ | 3, _ | 4, _ | 5, _ | 6, _ | 7, _ | 8, _ | 9, _ => decide
theorem pe_fpot {i k1 k2 : Nat} {x a1 a2 : Str} {p q1 q2 q3 q4 : Pos} (hN : X.N[i]? = some x) (hv : Vis X.env.scope x)
    (hz : ∀ n : Nat, n < 10 → (Str.empty ++ a1).length ≤ sizeLine ∧ (Str.empty ++ a1 ++ Str.ofString (toString (n : Int))).length ≤ sizeLine ∧ (Str.empty ++ a1 ++ Str.ofString (toString (n : Int)) ++ a2).length ≤ sizeLine)
    (hd : (x == ("__debug__" : Str)) = false := by decide) (hcd : (x == ("__classdict__" : Str)) = false := by decide) :
    PE X (.JoinedStr [.Constant (.str a1) k1 q1, .FormattedValue (.Name x p) (-1) none q2, .Constant (.str a2) k2 q3] q4) (tFp i) := by
  intro pins s st H Q I h
  obtain ⟨n, hn, h10, q⟩ := h
  obtain ⟨z1, z2, z3⟩ := hz n h10
  refine JoinedStr_many (joinParts_cons (wpAny_Constant_str ⟨z1, joinParts_cons (FormattedValue_plain (thn (pe_var hN hv hd hcd pins _ st H (fun v H1 => v = .int n ∧ H1 = H) (I.tok _) ⟨_, hn, rfl, rfl⟩) fun u s2 ⟨v, H2, I2, r2, ev, eH⟩ => ?_))⟩))
  subst ev; subst eH
  obtain ⟨t, rfl⟩ := r2
  refine formatField_int_small (log_10 h10) ⟨z2, joinParts_cons (wpAny_Constant_str ⟨z3, joinParts_nil ?_ z3⟩)⟩
  exact ⟨.str _, H2, I2.tok _, ⟨_, rfl⟩, q _⟩
def tBi (C : Addr) : TE := fun st H Q => ∃ (ea : Addr) (n : Nat), st[0]? = some (some (.ref ea)) ∧ st[1]? = some (some (.int n)) ∧ n < 10 ∧ H ea = some (.ext (RawX C ea none)) ∧ Q .non H
theorem pe_binit {pl : Sem Bool} {C BE fI : Addr} {mc : Value} {xb xs xp a1 a2 : Str} {k1 k2 : Nat} {p1 p3 apos pos p q1 q2 q3 q4 : Pos} {bmB : List Value} {newId : String} {B initId : String} (F : ExcBaseFacts B newId initId bmB) (hq : excII X.K C bmB newId fI = true)
    (hg : Gl X xb) (hm : X.mg xb = some (.ref BE)) (hsp : PySem.W.specialIn X.K (.ref BE) (Str.ofString "__getattribute__") = some (some (.builtin "type.__getattribute__")))
    (h1 : PySem.W.readsIn X.K BE mc = true) (h2 : PySem.W.findCls X.K (.ref BE) mc "__init__" = some (.val (.builtin initId))) (hh : PySem.W.handedIn (.builtin initId) = true)
    (hN0 : X.N[0]? = some xs) (hv0 : Vis X.env.scope xs) (hN1 : X.N[1]? = some xp) (hv1 : Vis X.env.scope xp)
    (hz : ∀ n : Nat, n < 10 → (Str.empty ++ a1).length ≤ sizeLine ∧ (Str.empty ++ a1 ++ Str.ofString (toString (n : Int))).length ≤ sizeLine ∧ (Str.empty ++ a1 ++ Str.ofString (toString (n : Int)) ++ a2).length ≤ sizeLine)
    (hdb : (xb == ("__debug__" : Str)) = false := by decide) (hds : (xs == ("__debug__" : Str)) = false := by decide) (hcs : (xs == ("__classdict__" : Str)) = false := by decide) (hdp : (xp == ("__debug__" : Str)) = false := by decide) (hcp : (xp == ("__classdict__" : Str)) = false := by decide)
    (ht : eval (.Call (.Attribute (.Name xb p1) "__init__" apos) [.Name xs p3, .JoinedStr [.Constant (.str a1) k1 q1, .FormattedValue (.Name xp p) (-1) none q2, .Constant (.str a2) k2 q3] q4] [] pos) X.env = (do
      let ov ← eval (.Name xb p1) X.env
      standAt apos.atName
      let (f, first) ← holding [ov] (getMethod ov "__init__" pl)
      callWith pos f first (backTo pos (starEach [.Name xs p3, .JoinedStr [.Constant (.str a1) k1 q1, .FormattedValue (.Name xp p) (-1) none q2, .Constant (.str a2) k2 q3] q4] X.env)) (backToKw pos (keywordEach [] X.env))) := by rfl) :
    PE X (.Call (.Attribute (.Name xb p1) "__init__" apos) [.Name xs p3, .JoinedStr [.Constant (.str a1) k1 q1, .FormattedValue (.Name xp p) (-1) none q2, .Constant (.str a2) k2 q3] q4] [] pos) (tBi C) := by
  intro pins s st H Q I h
  obtain ⟨ea, n, e0, e1, h10, hH, q⟩ := h
  refine PySem.W.methodCall_KW (pl := pl) (ld_glob I hg hm ?_ hdb) ht
  refine PySem.W.method_cls I.kIn hsp (PySem.W.cls_value I.kIn h1 h2 hh ?_)
  have I1 := I.tok (s.toks + 1)
  have hP : PA X [.Name xs p3, .JoinedStr [.Constant (.str a1) k1 q1, .FormattedValue (.Name xp p) (-1) none q2, .Constant (.str a2) k2 q3] q4] _ := pa_cons (pe_var (pos := p3) hN0 hv0 hds hcs) (pa_cons (pe_fpot hN1 hv1 hz hdp hcp) pa_nil)
  have hA := hP pos pins _ st H (fun vs H1 => ∃ y, vs = [.ref ea, .str y] ∧ H1 = H) I1 ⟨_, e0, n, e1, h10, fun y => ⟨y, rfl, rfl⟩⟩
  refine Calls.callWith_builtin rfl (Calls.evalArgs_plain (thn hA fun us s2 ⟨vs, H2, I2, r, y, ev, eH⟩ => ?_))
  subst ev; subst eH
  obtain ⟨u1, u2, rfl, r1, r2⟩ := vals2 r
  cases (show u1 = Value.ref ea from r1)
  obtain ⟨t, rfl⟩ := r2
  obtain ⟨⟨oe, vs, a0, he, hc, hdn, hdt, hsz, hv0', hv1'⟩, _, _⟩ := I2.hok ea _ hH
  obtain ⟨bm, N, nm, qn, bs, sn, sub, ab, col, dd, k0, k1', k2', k3, k5, mN, hC, hNs, hni, tl⟩ := exc_objI I2.kIn hq
  obtain ⟨hh2, g2, d2, t2, os2⟩ := s2
  refine wpAny_call (codeAny_call_builtin F.init.plain F.initEntry (wpAny_check_init_subT F tl hC he hc ?_))
  unfold Builtin.«BaseException.__init__»
  show wpAny _ _ (newTuple [.str y t] >>= fun v => Builtin.BaseException.bexcPut (.ref ea) 0 v >>= fun _ => PySem.ret .none) _ _ _
  refine wpAny_bind (wpAny_newTuple ?_ (show (1 : Nat) ≤ sizeLine by decide))
  have he1 : (hh2.push { cls := .type "tuple", data := .seq [Value.str y t].toArray }).get? ea = some oe := Heap.get?_push_of_some _ he
  have s0 : 0 < vs.size := by omega
  have put : wpAny (model X.prog X.w) X.A.in1 (Builtin.BaseException.bexcPut (.ref ea) 0 (.ref hh2.objs.size)) (fun _ s3 => EP X pins st Q .none s3) X.xe ⟨hh2.push { cls := .type "tuple", data := .seq [Value.str y t].toArray }, g2, d2, t2, os2⟩ := by
    unfold Builtin.BaseException.bexcPut
    refine wpAny_bind (wpAny_field he1 hdt hv0' (wpAny_bind (wpAny_setField he1 hdt s0 ?_)))
    have fin : EP X pins st Q .none ⟨(hh2.push { cls := .type "tuple", data := .seq [Value.str y t].toArray }).update ea (Obj.mapFields (·.setIfInBounds 0 (.ref hh2.objs.size))), g2, d2, t2, os2⟩ := by
      have slf := Heap.get?_update_self (Obj.mapFields (·.setIfInBounds 0 (Value.ref hh2.objs.size))) he1 (Obj.isFreed_of_fields (Obj.data_mapFields hdt _))
      have J := retrack (φ' := RawX C ea none) (t' := t2) I2 hH (fun b o nb e => (Heap.get?_update_other _ _ (Ne.symm nb)).trans (Heap.get?_push_of_some _ e)) slf
        ⟨_, _, .ref hh2.objs.size, slf, (Obj.cls_mapFields _ _).trans hc, ?_, Obj.data_mapFields hdt _, by simpa using hsz, by simp [s0], by rw [Array.getElem?_setIfInBounds_ne (by decide)]; exact hv1'⟩ raw_stay
      · rw [upd_id hH] at J
        exact ⟨.non, H2, J, rfl, q⟩
      · obtain ⟨oc, od, odt, osl⟩ := oe
        cases hdt; exact hdn
    cases a0 <;> first | exact wpAny_letGo fin | exact wpAny_pure fin
  exact wpAny_bind (wpAny_mono put (fun _ s3 z => wpAny_pure z) fun _ _ z => z)
end
end L4

namespace L4
open PySem PySem.Spec PyProof.Rows L2
theorem refuse_tail {h : Heap} {bmB tl : List Value} (self : Value) (what : Str) (T : OwnTail h bmB tl) : refuseLoop self what tl = refuseLoop self what bmB := by
  induction T with
  | base => rfl
  | own _ _ _ _ ih => rw [refuseLoop_ref]; exact ih
section
variable {prog : Program} {w : World} {A : Around} {E : Value → Shared → Prop} {h : Heap} {g : Array GenState} {d : Drawn} {t : Nat} {os : OsState} {K : PySem.W.Frag}
variable {nm qn : Str} {C N x : Addr} {bs bm bmB : List Value} {sn : List Str} {sub : List Value} {ab : Bool} {col : Option Bool} {dd : Option Addr} {k0 k1 k2 k3 k5 : Option Value} {B newId sa owner : String} {name : Str} {v : Value} {o : Obj} {vs : Array Value}
theorem set_own {Q : Unit → Shared → Prop} (KX : K.In h) (SF : StoreFacts B bmB sa owner) (T : OwnTail h bmB bm) (hC : h.get? C = some (excClassObj nm qn C N bs bm true sn sub ab col dd k0 k1 k2 k3 k5 newId))
    (hsa : PySem.W.findIn K (.ref C) "__setattr__" = some (some (.builtin sa))) (hna : PySem.W.findIn K (.ref C) name = some none) (hmo : PySem.W.mroIn K C (.type owner) = some true) (hx : h.get? x = some o) (hc : o.cls = .ref C) (hdn : o.dict = none) (hdt : o.data = .fields vs)
    (hq : ∀ h' dN tk, h.get? dN = none → h'.get? x = some { o with dict := some dN } → (∀ b u, b ≠ x → h.get? b = some u → h'.get? b = some u) → h'.Ns dN (fun y => if y = name then some v else none) → Q () ⟨h', g, d, tk, os⟩) :
    wpAny (model prog w) A (setAttr (.ref x) name v) Q E ⟨h, g, d, t, os⟩ := by
  have l0 : PySem.W.Looks (model prog w) h (typeOf (.ref x)) (.ref C) := by rw [← hc]; exact (PySem.W.Looks.ld hx).andThen .now
  have l1 := PySem.W.looks_findIn (M := model prog w) KX hsa
  have l2 := PySem.W.looks_findIn (M := model prog w) KX hna
  have l3 := PySem.W.looks_mroIn (M := model prog w) KX hmo
  have f3 := SF.slot.bind (.ref x)
  unfold setAttr callSpecial? specialOf
  repeat (any_goals (first | assumption | (with_reducible refine PySem.W.Looks.at (by assumption) ?_) | wp_step))
  refine codeAny_call_builtin SF.slot.plain SF.entry ?_
  have hk := SF.kind
  have hsp := SF.split
  simp only [List.cons_append, List.nil_append, checkBuiltinCall, hk, hsp]
  refine wpAny_bind ?_
  have body : wpAny (model prog w) A.in1 (Builtin.«object.__setattr__» ⟨[.ref x, .str name t, v], []⟩) (fun fin s' => match fin with | .done f => (match f with | .ret r => Q () s' | _ => False) | .again c' => False) E ⟨h, g, d, t + 1, os⟩ := by
    have hpass := (refuse_tail (.ref x) "__setattr__" T).trans (SF.passes (.ref x))
    unfold Builtin.«object.__setattr__»
    repeat (first | rw [refuse_eq] | (rw [refuseLoop_ref, hpass]) | with_reducible refine wpAny_mroOf_exc hC ?_ | (with_reducible refine PySem.W.Looks.at l0 ?_) | (with_reducible refine PySem.W.Looks.at l2 ?_) | (with_reducible refine wpAny_loadPart_at hx ?_; rw [hc]) | wp_step)
    rw [hdn]
    dsimp only
    rw [if_neg (show ¬ ((!true || !typeHasDict (Value.ref C)) = true) by simp [typeHasDict]), hdt]
    dsimp only
    let hd1 : Heap := h.push { cls := .type "dict", data := .dict #[] }
    have x1 : hd1.get? x = some o := Heap.get?_push_of_some _ hx
    have nx : h.objs.size ≠ x := Nat.ne_of_gt (Heap.lt_size hx)
    refine wpAny_bind (wpAny_alloc' (wpAny_bind (wpAny_update' x1 (wpAny_pure ?_))))
    let hd2 : Heap := hd1.update x fun o => { cls := o.cls, dict := some h.objs.size, data := o.data, slots := o.slots }
    have gd : hd2.get? h.objs.size = some { cls := .type "dict", data := .dict #[] } := (Heap.get?_update_ne _ _ _ _ nx).trans (Heap.get?_push_at rfl rfl)
    have nd : hd2.Ns h.objs.size (fun _ => none) := ⟨_, #[], _, gd, rfl, fun e he => absurd he (by simp), fun _ => rfl⟩
    show wpAny _ _ (Builtin.ObjectAttr.storeInDict h.objs.size (.str name t) name v) _ _ ⟨hd2, g, d, t + 1, os⟩
    unfold Builtin.ObjectAttr.storeInDict Builtin.ObjectAttr.newKeyGuard
    refine wpAny_bind (wpAny_pure (wpAny_bind (wpAny_nsSet1 (Heap.Ns1.of_empty nd) fun h' n1 sb => ?_)))
    obtain ⟨oD, eD, pD, hoD, hdD, hcD⟩ := n1.count (Within.cons name v Within.nil)
    refine wpAny_bind (wpAny_lookBehind hoD (by rw [hdD]; exact pastItsLine_dict (Nat.le_trans hcD (by rw [List.length_cons, List.length_nil, sizeLine_eq]; omega))) ?_)
    wp_walk
    have xs : h'.get? x = some { o with dict := some h.objs.size } := by
      refine (sb.2 x (Ne.symm nx)).trans ((Heap.get?_update_self _ x1 ?_).trans rfl)
      obtain ⟨oc, od, odt, osl⟩ := o
      cases hdt; rfl
    exact hq h' h.objs.size _ (Heap.get?_none_of_le (Nat.le_refl _)) xs (fun b u nb e => (sb.2 b (Nat.ne_of_lt (Heap.lt_size e))).trans ((Heap.get?_update_ne _ _ _ _ nb).trans (Heap.get?_push_of_some _ e))) n1.ns
  unfold isInstance
  repeat (any_goals (first | assumption | (with_reducible refine PySem.W.Looks.at (by assumption) ?_) | wp_step))
  have ha := SF.args (.ref x) (.str name t) v
  have ok : ∀ {R : Unit → Shared → Prop} {E2 : Value → Shared → Prop} {s2 : Shared}, R () s2 → wpAny (model prog w) A.in1 (match Manifest.signature? sa with | some sig => Bind.checkArgs sa sig ⟨[.ref x, .str name t, v], []⟩ | _ => pure ()) R E2 s2 := fun {R E2 s2} r => by
    unfold argsOk at ha
    cases hsig : Manifest.signature? sa with
    | none => exact wpAny_pure r
    | some sig =>
      rw [hsig] at ha
      have z : Bind.checkArgs sa sig ⟨[.ref x, .str name t, v], []⟩ = pure () := ha
      show wpAny _ _ (Bind.checkArgs sa sig ⟨[.ref x, .str name t, v], []⟩) R E2 s2
      rw [z]; exact wpAny_pure r
  refine ok (wpAny_mono body (fun fin s' z => ?_) fun _ _ z => z)
  cases fin with
  | done f =>
    cases f with
    | ret r => exact wpAny_pure (wpAny_pure z)
    | _ => exact z.elim
  | again c' => exact z.elim
end
end L4

namespace L4
open PySem PySem.Spec PyProof.Rows L2
section
variable {X : Cx}
def tPs (C : Addr) : TS := fun D st H => ∃ (ea : Addr) (n : Nat), st[0]? = some (some (.ref ea)) ∧ st[1]? = some (some (.int n)) ∧ H ea = some (.ext (RawX C ea none)) ∧
  ∀ dN, H dN = none → dN ≠ ea → D.nx st (upd (upd H ea (.ext (RawX C ea (some dN)))) dN (.ext (PotAt dN n)))
/-- self.pot = pot -/
theorem ps_pot {C fI : Addr} {B newId sa owner : String} {bmB : List Value} {xs xp : Str} {p1 p2 p3 pos : Pos} (SF : StoreFacts B bmB sa owner) (hq : excII X.K C bmB newId fI = true)
    (hsa : PySem.W.findIn X.K (.ref C) "__setattr__" = some (some (.builtin sa))) (hna : PySem.W.findIn X.K (.ref C) "pot" = some none) (hmo : PySem.W.mroIn X.K C (.type owner) = some true)
    (hN0 : X.N[0]? = some xs) (hv0 : Vis X.env.scope xs) (hN1 : X.N[1]? = some xp) (hv1 : Vis X.env.scope xp)
    (hds : (xs == ("__debug__" : Str)) = false := by decide) (hcs : (xs == ("__classdict__" : Str)) = false := by decide) (hdp : (xp == ("__debug__" : Str)) = false := by decide) (hcp : (xp == ("__classdict__" : Str)) = false := by decide)
    (hsw : swapsWith (.Name xp p3) (some (.Attribute (.Name xs p1) "pot" p2)) pos.line X.env = pure false := by rfl) :
    PS X (.Assign [.Attribute (.Name xs p1) "pot" p2] (.Name xp p3) pos) (tPs C) := by
  intro pins s st H D I h
  obtain ⟨ea, n, e0, e1, hH, q⟩ := h
  refine plainObj_wpAny_Assign_Attribute (thn (pe_var hN1 hv1 hdp hcp pins s st H (fun v H1 => v = .int n ∧ H1 = H) I ⟨_, e1, rfl, rfl⟩) fun u s1 ⟨y, H1, I1, ry, ey, eH⟩ => thn (pe_var hN0 hv0 hds hcs pins s1 st H1 (fun v H2 => v = .ref ea ∧ H2 = H1) I1 ⟨_, e0, rfl, rfl⟩) fun ov s2 ⟨x, H2, I2, rx, ex, eH2⟩ => ?_) hsw
  subst ey; subst ex; subst eH2; subst eH
  obtain ⟨t, rfl⟩ := ry
  obtain rfl : ov = Value.ref ea := rx
  obtain ⟨⟨oe, vs, a0, he, hc, hdn, hdt, hsz, hv0', hv1'⟩, _, _⟩ := I2.hok ea _ hH
  obtain ⟨bm, N, nm, qn, bs, sn, sub, ab, col, dd, k0, k1, k2, k3, k5, mN, hC, hNs, hni, tl⟩ := exc_objI I2.kIn hq
  obtain ⟨hh2, g2, d2, t2, os2⟩ := s2
  refine set_own I2.kIn SF tl hC hsa hna hmo he hc hdn hdt fun h' dN tk hnew hx' keep ns => ?_
  have ned : dN ≠ ea := fun z => by rw [z] at hnew; exact absurd (hnew.symm.trans he) (by simp)
  have hnd : H2 dN = none := by
    cases z : H2 dN with
    | none => rfl
    | some u => obtain ⟨v, e⟩ := objOk_there (I2.hok _ _ z); exact absurd (hnew.symm.trans e) (by simp)
  have J1 := retrack (φ' := RawX C ea (some dN)) (t' := tk) I2 hH keep hx' ⟨_, vs, a0, hx', hc, rfl, hdt, hsz, hv0', hv1'⟩ raw_stay
  obtain ⟨oD, es, ep, hoD, hdD, hsk, hfn⟩ := ns
  have J2 := track_at (φ := PotAt dN n) J1 I2 hnew (by rw [upd_ne ned]; exact hnd) hoD ⟨oD, hoD, es, ep, t, hdD, hsk, by rw [hfn]; simp⟩ pot_stay
  exact ⟨st, _, J2, q dN hnd ned⟩
/-- what the __init__ does -/
def spI (C : Addr) : Sp := fun vs H Q _ => ∃ (ea : Addr) (n : Nat), vs = [.ref ea, .int n] ∧ n < 10 ∧ H ea = some (.ext (RawX C ea none)) ∧
  ∀ dN, H dN = none → dN ≠ ea → Q .non (upd (upd H ea (.ext (RawX C ea (some dN)))) dN (.ext (PotAt dN n)))
end
def OkI (K : PySem.W.Frag) (P : Program) (w : World) (mg : Str → Option Value) (base : Heap) (k : Nat) (C f : Addr) (ps : List Str) : Prop :=
  ∃ fd, (∀ us : List Value, us.length = ps.length → bindArgs fd ⟨us, []⟩ = pure (ps.zip us)) ∧ FnOk P w K mg base (CXE P w) k f fd ps (spI C) ∧ ∃ oI, K.lookup f = some oI ∧ oI.cls = .type "function"
section
variable {P : Program} {w : World} {K : PySem.W.Frag} {mg : Str → Option Value} {base : Heap}
theorem okI_of {k : Nat} {C f : Addr} {x qual xs xp : Str} {st : Stmt} (h : HasM K C x qual st [xs, xp] f) (S : FnScope [xs, xp] [xs, xp] (defScope st)) (hfc : (K.lookup f).any (fun o => o.cls == .type "function") = true)
    (hb : ∀ (cdv : Value) (A : Around) (outer : List Env) (s : Shared) (H : Hp) (E : XK), Room k (A.deeper (envOfC qual (defScope st) s.heap.objs.size f cdv)) → PSs (cxOf (CXE P w) P w K mg base [xs, xp] qual (defScope st) f cdv A outer s H E) (defBody st) (tSeq (tDrop (tBi C)) (tPs C))) :
    OkI K P w mg base (k + 1) C f [xs, xp] := by
  obtain ⟨fd, F, hbd⟩ := h.ex
  obtain ⟨oc, od, kV, doc, pm, an, cdv, ct, osl, rfl, lk, hcd⟩ := F.ex
  refine ⟨_, hbd, fn_of lk hcd S (fun vs H Q E hsp => ?_) (fun A outer s H vs Q E hr hsp => ?_), _, lk, ?_⟩
  · obtain ⟨ea, n, rfl, _⟩ := hsp; rfl
  · obtain ⟨ea, n, rfl, h10, hH, q⟩ := hsp
    exact ⟨_, hb cdv A outer s H E hr, ea, n, rfl, rfl, h10, hH, ea, n, rfl, rfl, hH, fun dN h1 h2 => q dN h1 h2⟩
  · rw [lk] at hfc; simpa using hfc
end
end L4

namespace L4
open PySem PySem.Spec PyProof.Rows L2
section
variable {M : Model} {A : Around} {E : Value → Shared → Prop} {s : Shared} {env : Env}
variable {nm qn : Str} {C N : Addr} {bs bm : List Value} {hdct : Bool} {sn : List Str} {sub : List Value} {ab : Bool} {col : Option Bool} {dd : Option Addr} {k0 k1 k2 k3 k5 : Option Value} {newId : String}
theorem raise_own {x : Sem Value} {Q : Flow → Shared → Prop} (hh : A.handled = none)
    (h : wpAny M A x (fun v s1 => ∃ e nm qn N bs bm hdct sn sub ab col dd k0 k1 k2 k3 k5 oe vs, v = .ref e ∧ bm.contains (.type "BaseException") = true ∧ s1.heap.get? C = some (excClassObj nm qn C N bs bm hdct sn sub ab col dd k0 k1 k2 k3 k5 newId) ∧
      s1.heap.get? e = some oe ∧ oe.cls = .ref C ∧ oe.data = .fields vs ∧ vs[1]? = some .none ∧ E (.ref e) s1) E s) : wpAny M A (raiseStmt env (some x) none) Q E s := by
  unfold raiseStmt
  refine wpAny_bind (wpAny_mono h (fun v s1 z => ?_) fun _ _ z => z)
  obtain ⟨e, nm, qn, N, bs, bm, hdct, sn, sub, ab, col, dd, k0, k1, k2, k3, k5, oe, vs, rfl, hb, hC, he, hc, hd, h1, hE⟩ := z
  have hB : (Value.ref C :: bm).contains (.type "BaseException") = true := by rw [List.contains_cons, hb, Bool.or_true]
  obtain ⟨hp, g, d, tk, os⟩ := s1
  repeat (first | (with_reducible refine wpAny_loadPart_at he ?_; rw [hc]) | with_reducible refine wpAny_loadPart_at hC ?_ | (with_reducible refine wpAny_isSubtype_exc hC ?_; rw [hB]) | wp_step)
  rw [hd]
  refine wpAny_pure ?_
  rw [h1]
  refine wpAny_pure ?_
  rw [if_neg (by decide)]
  exact wpAny_pure (wpAny_raiseNew_none hh hE)
end
/-- raise C(n), n a small number that the exception keeps -/
def raisePK (c : Nat) (ρ : Ev) (d : D) : M Fl := match d with
  | .int i => if 0 ≤ i ∧ i < 10 then ret (.xc ρ ⟨c + 100 * (i.toNat + 1)⟩) else bad
  | _ => bad
def sRaiseP (c : Nat) (f : Ev → M D) : Ev → M Fl := fun ρ => xs ρ (f ρ) (raisePK c ρ)
theorem fdN_of {c n : Nat} (h : c < 100) : fdN (c + 100 * (n + 1)) = some n := by
  unfold fdN
  rw [if_neg (by omega)]
  congr 1; omega
section
variable {T : Tb} {X : Cx}
theorem own_fly {pins : List (Addr × Obj)} {st : St} {H1 : Hp} {s1 s3 : Shared} {h' : Heap} {ea C : Addr} {us : List Value} {n : Nat} {H' : Hp} {dN : Addr} {cls : Value} {hx : cls = .ref C}
    (I1 : Inv X pins st H1 s1) (hm : Heap.MadeExcOf s1.heap h' ea (.ref C) us) (os3 : s3.os = s1.os) (b3 : AllBare s3.gens) (U : Un (frs X.stack) [] (upd H1 ea (.ext (RawX C ea none))) H' h' s3.heap) (hok3 : HOk X.prog X.w H' s3.heap)
    (eH : H' = upd (upd (upd H1 ea (.ext (RawX C ea none))) ea (.ext (RawX C ea (some dN)))) dN (.ext (PotAt dN n))) (hdn : upd H1 ea (.ext (RawX C ea none)) dN = none) (ned : dN ≠ ea) (ff : s3.heap.FunFrames X.base X.stack) (thr : Thr X st cls (some n) H1) : X.xe (.ref ea) s3 := by
  subst hx
  have e1 : H1 ea = none := by
    cases q : H1 ea with
    | none => rfl
    | some u => obtain ⟨v, e⟩ := objOk_there (I1.hok _ _ q); rw [hm.new] at e; cases e
  have d1 : H1 dN = none := by rw [upd_ne ned] at hdn; exact hdn
  have hea : H' ea = some (.ext (RawX C ea (some dN))) := by rw [eH, upd_ne (Ne.symm ned)]; exact upd_same
  have hdN : H' dN = some (.ext (PotAt dN n)) := by rw [eH]; exact upd_same
  have up : ∀ b u, H1 b = some u → H' b = some u := fun b u e => by
    have nb : b ≠ ea := fun z => by rw [z, e1] at e; cases e
    have nd : b ≠ dN := fun z => by rw [z, d1] at e; cases e
    rw [eH, upd_ne nd, upd_ne nb, upd_ne nb]; exact e
  have dn : ∀ b u, H' b = some u → (∀ ψ, u ≠ .ext ψ) → H1 b = some u := fun b u e ne => by
    have nb : b ≠ ea := fun z => by rw [z, hea] at e; cases e; exact ne _ rfl
    have nd : b ≠ dN := fun z => by rw [z, hdN] at e; cases e; exact ne _ rfl
    rw [eH, upd_ne nd, upd_ne nb, upd_ne nb] at e; exact e
  have sne : ∀ b o, s1.heap.get? b = some o → b ≠ ea := fun b o e z => by rw [z, hm.new] at e; cases e
  have h2n : ∀ b, b ≠ ea → H1 b = none → upd H1 ea (.ext (RawX C ea none)) b = none := fun b nb e => by rw [upd_ne nb]; exact e
  have un : Un (frs X.stack) [] H1 H1 s1.heap s3.heap := ⟨fun b o e ne hb _ => U.keep b o (hm.keeps b o e) (h2n b (sne b o e) ne) hb (by simp), fun b o e ne hb _ => U.slot b o (hm.keeps b o e) (h2n b (sne b o e) ne) hb (by simp), fun b o e ne _ => ne, fun b o e _ => U.there b o (hm.keeps b o e) (by simp), fun _ _ e => e, fun _ _ _ e => e, fun b ps e => ⟨#[], by rw [e]; simp⟩⟩
  have hok1 : HOk X.prog X.w H1 s3.heap := fun b o e => (hok3 b o (up b o e)).stay (fun c v _ q => q) (fun c q => dn c _ q fun _ z => by cases z) fun c xs q => dn c _ q fun _ z => by cases z
  obtain ⟨⟨oe, vs, a0, he, hc, hdd, hdt, hsz, h0, h1⟩, _, _⟩ := hok3 ea _ hea
  obtain ⟨⟨oD, hoD, es, ep, t, q1, q2, q3⟩, _, _⟩ := hok3 dN _ hdN
  have nfr : ∀ b u, H' b = some u → b ∉ frs X.stack := fun b u e z => by
    obtain ⟨o, ho, _, hn1⟩ := fly_frames I1 b z
    have nb := sne b o ho
    have := U.free b o (hm.keeps b o ho) (h2n b nb hn1) (by simp)
    rw [this] at e; cases e
  have new_d : s1.heap.get? dN = none := by
    cases q : s1.heap.get? dN with
    | none => rfl
    | some u => have := U.free dN u (hm.keeps _ _ q) hdn (by simp); rw [hdN] at this; cases this
  have hid : ∀ b o, s3.heap.get? b = some o → b ∉ frs X.stack → b ≠ ea → (PySem.W.hideAll s3.heap (frs X.stack ++ [ea])).get? b = some o := fun b o e nf nb => PySem.W.hideAll_get _ e (by simp only [List.mem_append, List.mem_singleton, not_or]; exact ⟨nf, nb⟩)
  refine thr.fly pins H1 s1 (.ref ea) s3 I1 ⟨⟨ea, a0, PySem.W.hideAll s3.heap (frs X.stack ++ [ea]), rfl, ⟨fun b o q => PySem.W.of_hideAll _ q, PySem.W.hideAll_none _ (by simp), PySem.W.funFrames_hide ff (fun env he a ha => List.mem_append_left _ (List.mem_filterMap.mpr ⟨env, he, ha⟩)), .inr ⟨oe, vs, he, hc, hdt, hsz, h0, h1⟩⟩, e1, hm.new, fun b o e => ?_, fun b o e ne hb => ?_, fun b o e hb => ?_, fun m q => ?_⟩, os3, b3, un, hok1⟩
  · obtain ⟨u, q⟩ := objOk_there (hok1 b o e)
    exact ⟨u, hid b u q (nfr b o (up b o e)) fun z => by rw [z, e1] at e; cases e⟩
  · exact hid b o (un.keep b o e ne hb (by simp)) hb (sne b o e)
  · obtain ⟨o', q⟩ := un.there b o e (by simp)
    exact ⟨o', hid b o' q hb (sne b o e)⟩
  · cases q
    exact ⟨dN, oD, oe, he, hdd, hid dN oD hoD (nfr dN _ hdN) ned, ⟨es, ep, t, q1, q2, q3⟩, d1, new_d⟩
theorem fs_raiseP (c : Nat) {k : Nat} {fI : Addr} {x : Str} {ps : List Str} {B newId initId : String} {bmB : List Value} {np cpos pos : Pos} {e : Expr} {f : Ev → M D} (FB : ExcBaseFacts B newId initId bmB) (hK : T.K = X.K) (hq : excII X.K (T.ca c) bmB newId fI = true) (hkp : PySem.W.keepIn X.K (.ref (T.ca c)) = true)
    (hm : X.mg x = some (.ref (T.ca c))) (hO : OkI X.K X.prog X.w X.mg X.base k (T.ca c) fI ps) (hps : ps.length = 2) (hca : ∀ n, n < 10 → T.ca (c + 100 * (n + 1)) = T.ca c) (hc9 : c < 100) (hr : Room (k + 1) X.A) (hg : Gl X x) (hc : X.calm = true) (he : FE T X e f)
    (hdb : (x == ("__debug__" : Str)) = false := by decide) (hst : starEach [e] X.env = (false, eval e X.env) :: starEach [] X.env := by rfl) (hpl : (backTo cpos (starEach [] X.env)).any (·.1) = false := by rfl) :
    FS T X (.Raise (some (.Call (.Name x np) [e] [] cpos)) none pos) (sRaiseP c f) := by
  intro pins s st H D I hw
  obtain ⟨μ, ρ, σ, hE, hr', hp⟩ := hw
  obtain ⟨fd, hbd, hF, oI, lkI, hfc⟩ := hO
  have step := he pins s st H (fun v H1 => ∃ n : Nat, n < 10 ∧ v = .int n ∧ Thr X st (.ref (T.ca c)) (some n) H1) I ⟨μ, ρ, σ, hE, hr', hp.xs hE fun d σ1 μ1 v H1 _ e1 r1 q1 p1 => by
    unfold raisePK at p1
    cases d with
    | int i =>
      dsimp only at p1
      by_cases hi : 0 ≤ i ∧ i < 10
      · rw [if_pos hi] at p1
        obtain ⟨n, rfl⟩ := Int.eq_ofNat_of_zero_le hi.1
        have hn : n < 10 := by omega
        refine ⟨n, hn, int_of q1, ?_⟩
        have z := Post.here (g := Gl2.xc st (.ref (T.ca c)) (some n)) p1 r1 ⟨hE.mono e1, ?_, ?_⟩
        · exact z
        · show Value.ref (T.ca c) = Value.ref (T.ca (c + 100 * ((n : Int).toNat + 1)))
          rw [Int.toNat_natCast, hca n hn]
        · show some n = fdN (c + 100 * ((n : Int).toNat + 1))
          rw [Int.toNat_natCast, fdN_of hc9]
      · rw [if_neg hi] at p1; exact p1.elim
    | _ => exact p1.elim⟩
  rw [arm_exec_Raise]
  refine wpAny_bind (wpAny_standAt (raise_own (C := T.ca c) (newId := newId) (I.ok.hd hc) ?_))
  show wpAny _ _ (eval (.Call (.Name x np) [e] [] cpos) X.env >>= fun v => standAt pos >>= fun _ => pure v) _ _ s
  refine wpAny_bind (wpAny_Call_Name_kw (ld_glob I hg hm ?_ hdb))
  refine PySem.W.callWith_K (h₀ := X.base) I.ok.mod.kin hkp ?_ hst hpl
  rw [hst]
  show wpAny _ _ (spliced [(false, eval e X.env)]) _ _ s
  refine Calls.spliced_cons (thn step fun u s1 ⟨v, H1, I1, rv, n, hn, ev, thr⟩ => wpAny_pure ⟨I1.kIn, ?_⟩)
  subst ev
  obtain ⟨t, rfl⟩ := rv
  obtain ⟨bm, N, nm, qn, bs, sn, sub, ab, col, dd, k0, k1, k2, k3, k5, mN, hC, hNs, hni, tl⟩ := exc_objI I1.kIn hq
  obtain ⟨hh1, g1, d1, t1, os1⟩ := s1
  refine call_own FB tl hC hNs hni (I1.kIn _ _ lkI) hfc (show (1 : Nat) ≤ sizeLine by decide) fun h' ea hmade => ?_
  obtain ⟨t0, hex, _, _⟩ := hmade.there
  have e1 : H1 ea = none := by
    cases q : H1 ea with
    | none => rfl
    | some u => obtain ⟨v, e⟩ := objOk_there (I1.hok _ _ q); exact absurd (hmade.new.symm.trans e) (by simp)
  have I2 : Inv X pins st (upd H1 ea (.ext (RawX (T.ca c) ea none))) ⟨h', g1, d1, t1, os1⟩ := track_at (I1.kept (t' := t1) hmade.keeps) I1 hmade.new e1 hex ⟨_, _, .ref t0, hex, rfl, rfl, rfl, by simp, rfl, rfl⟩ raw_stay
  have hsp : spI (T.ca c) [.ref ea, .int n] (upd H1 ea (.ext (RawX (T.ca c) ea none))) (fun v H' => v = .non ∧ ∃ dN, upd H1 ea (.ext (RawX (T.ca c) ea none)) dN = none ∧ dN ≠ ea ∧ H' = upd (upd (upd H1 ea (.ext (RawX (T.ca c) ea none))) ea (.ext (RawX (T.ca c) ea (some dN)))) dN (.ext (PotAt dN n))) (fun _ _ _ => False) :=
    ⟨ea, n, rfl, hn, upd_same, fun dN h1 h2 => ⟨rfl, dN, h1, h2, rfl⟩⟩
  refine wpAny_call (codeAny_mono (hF.run _ X.stack _ _ ⟨[.ref ea, .int n t], []⟩ [.ref ea, .int n t] [.ref ea, .int n] _ _ (hr.make (T.ca c) [.int n t] []) (I2.env0.make (T.ca c) [.int n t] []) (.of_eq (hbd _ (by rw [hps]; rfl))) (.cons rfl (.cons ⟨_, rfl⟩ .nil)) hsp) fun r s3 hq' => ?_)
  cases r with
  | error er => obtain ⟨_, _, _, _, z⟩ := hq'; exact z.elim
  | ok fl =>
    cases fl with
    | ret u =>
      have I3 := (I2.after hq')
      obtain ⟨v3, H3, os3, b3, U, hok3, rv3, ev3, dN, z1, z2, eH⟩ := hq'
      obtain ⟨_, _, J3, _⟩ := I3
      subst ev3
      cases (show u = Value.none from rv3)
      have hea : H3 ea = some (.ext (RawX (T.ca c) ea (some dN))) := by rw [eH, upd_ne (Ne.symm z2)]; exact upd_same
      obtain ⟨⟨oe, vs, a0, he3, hc3, hdd, hdt, hsz, h0, h1⟩, _, _⟩ := hok3 ea _ hea
      obtain ⟨bm', N', nm', qn', bs', sn', sub', ab', col', dd', k0', k1', k2', k3', k5', mN', hC', _, _, tl'⟩ := exc_objI J3.kIn hq
      refine ⟨rfl, wpAny_bind (wpAny_standAt (wpAny_pure ⟨ea, nm', qn', N', bs', bm', true, sn', sub', ab', col', dd', k0', k1', k2', k3', k5', oe, vs, rfl, tl'.hasType FB.hasBase, hC', he3, hc3, hdt, h1, ?_⟩))⟩
      exact own_fly (hx := rfl) I1 hmade os3 b3 U hok3 eH z1 z2 J3.stack thr
    | next => exact False.elim hq'
    | brk => exact False.elim hq'
    | cont => exact False.elim hq'
end
end L4

/-! e.pot of a caught exception -/
namespace L4
open PySem PySem.Spec PySem.Calls PyProof.Rows PySem.Builtin PySem.Builtin.ObjectAttr L2
section
variable {prog : Program} {w : World} {A : Around} {E : Value → Shared → Prop} {s : Shared} {K : PySem.W.Frag} {C ea dN : Addr} {hp : Heap} {n : Nat} {Mo : Model}
theorem cls_has (Z : ExK K C) (X : K.In hp) : ∃ (o : Obj) (cd : ClassData), hp.get? C = some o ∧ o.data = .cls cd ∧ cd.hasDict = true := by
  obtain ⟨cd, hcd, hd⟩ := PySem.W.any_some Z.d
  unfold PySem.W.clsIn at hcd
  split at hcd
  · rename_i ho
    cases hcd
    exact ⟨_, _, X _ _ ho, rfl, hd⟩
  · cases hcd
theorem pot_ns (p : PotAt dN n hp) : ∃ m t, hp.Ns dN m ∧ m "pot" = some (.int n t) := by
  obtain ⟨o, ho, es, ep, t, h1, h2, h3⟩ := p
  exact ⟨fun x => nsFind es x, t, ⟨o, es, ep, ho, h1, h2, fun _ => rfl⟩, h3⟩
theorem pot_find {Q : Found → Shared → Prop} (Z : ExK K C) (hna : PySem.W.findIn K (.ref C) "pot" = some none) (X : K.In s.heap) (p : ExcAtD C (some dN) ea s.heap) (p2 : PotAt dN n s.heap) (h : ∀ t, Q (.value (.int n t)) s) : wpAny (model prog w) A (find (.ref ea) (.ref C) "pot") Q E s := by
  obtain ⟨hh, gl, dr, tt, os⟩ := s
  have l2 := PySem.W.looks_findIn (M := model prog w) X hna
  obtain ⟨oC, cd, hC, hcd, hdi⟩ := cls_has Z X
  obtain ⟨o, ho, hc, hd⟩ := p
  obtain ⟨hd1, vs, hd2⟩ := hd _ rfl
  obtain ⟨m, t, hns, hm⟩ := pot_ns p2
  unfold find
  refine wpAny_bind (l2.at ?_)
  unfold getOf dataDescriptor? ownThenClass inOwnDict ownDict instanceDict
  repeat (any_goals (first | (with_reducible refine wpAny_loadPart_at ho ?_) | (with_reducible refine wpAny_loadPart_at hC ?_) | (with_reducible refine wpAny_nsGet hns ?_; rw [hm]) | wp_step))
  obtain ⟨oc, od, odt, osl⟩ := o
  dsimp only at hc hd1 hd2
  subst hc; subst hd1; subst hd2
  obtain ⟨cc, c2, cdt, csl⟩ := oC
  dsimp only at hcd
  subst hcd
  dsimp only
  unfold classData
  repeat (any_goals (first | (with_reducible refine wpAny_loadPart_at ho ?_) | (with_reducible refine wpAny_loadPart_at hC ?_) | (with_reducible refine wpAny_nsGet hns ?_; rw [hm]) | wp_step))
  exact h t
theorem pot_get {expr : Bool} {Q : Value → Shared → Prop} (Z : ExK K C) (hna : PySem.W.findIn K (.ref C) "pot" = some none) (X : K.In s.heap) (p : ExcAtD C (some dN) ea s.heap) (p2 : PotAt dN n s.heap) (h : ∀ t, Q (.int n t) { s with toks := s.toks + 1 }) : wpAny (model prog w) A (getAttr (.ref ea) "pot" expr) Q E s := by
  obtain ⟨hh, gl, dr, tt, os⟩ := s
  have l0 := exc_ty (Mo := model prog w) p.plain
  have l1 := PySem.W.looks_findIn (M := model prog w) X Z.g
  have l2 := PySem.W.looks_findIn (M := model prog w) X Z.g2
  have l4 := PySem.W.looks_mroIn (M := model prog w) X Z.mb
  have f3 := PySem.F.excAttr_ValueError.ga.bind (.ref ea)
  have hx0 : (expr && onTheHeap (Value.builtin "BaseException.__getattribute__")) = false := by cases expr <;> rfl
  unfold getAttr getAttrBy; refine wpAny_bind (wpAny_mkText (wpAny_holding (wpAny_bind (l0.at (wpAny_bind (l1.at ?_))))))
  show wpAny _ _ (getAttrByItsOwn _ _ _ _ _ _) _ _ _
  unfold getAttrByItsOwn hookBefore callGetattribute
  rw [hx0]
  repeat (any_goals (first | assumption | (with_reducible refine PySem.W.Looks.at (by assumption) ?_) | wp_step))
  refine codeAny_call_builtin PySem.F.excAttr_ValueError.ga.plain PySem.F.entry_bexc_ga ?_
  have hknd : builtinKind "BaseException.__getattribute__" = some .slot := by decide +kernel
  have hsp : splitId "BaseException.__getattribute__" = some ("BaseException", "__getattribute__") := by decide +kernel
  have ha := PySem.F.args_bexc_ga (.ref ea) (.str "pot" tt)
  simp only [List.cons_append, List.nil_append, checkBuiltinCall, hknd, hsp]; refine wpAny_bind ?_; unfold isInstance
  repeat (any_goals (first | assumption | (with_reducible refine PySem.W.Looks.at (by assumption) ?_) | (with_reducible refine pot_find Z hna X p p2 fun t => ?_) | wp_step))
  exact h t
end
/-- e.pot -/
def oPotX (cs : List Nat) (x : D) : M D := fun σ => match x with
  | .exn c => (match cs.contains c, fdN c with
    | true, some n => .ok (.int n) σ
    | _, _ => .bad)
  | _ => .bad
def PxOk (T : Tb) (cs : List Nat) : Prop := ∀ c, cs.contains c = true → ExK T.K (T.ca c) ∧ PySem.W.findIn T.K (.ref (T.ca c)) "pot" = some none
theorem px_nil {T : Tb} : PxOk T [] := fun c h => by simp at h
theorem px_cons {T : Tb} {c : Nat} {cs : List Nat} (h1 : ExK T.K (T.ca c)) (h2 : PySem.W.findIn T.K (.ref (T.ca c)) "pot" = some none) (h : PxOk T cs) : PxOk T (c :: cs) := fun d hd => by
  rw [List.contains_cons, Bool.or_eq_true, beq_iff_eq] at hd
  rcases hd with rfl | hd
  · exact ⟨h1, h2⟩
  · exact h d hd
section
variable {T : Tb} {X : Cx}
theorem fe_potX {e : Expr} {g : Ev → M D} {pos : Pos} {cs : List Nat} (hK : T.K = X.K) (hc : PxOk T cs) (he : FE T X e g)
    (hb : attributeBase e "pot" X.env (eval e X.env) = eval e X.env := by rfl) : FE T X (.Attribute e "pot" pos) (eUn (oPotX cs) g) := by
  intro pins s st H Q I h
  obtain ⟨μ, ρ, σ, hE, hr, hp⟩ := h
  refine attr_of hb (thn (he pins s st H (fun v H1 => ∃ (a dN : Addr) (c n : Nat), v = .ref a ∧ cs.contains c = true ∧ H1 a = some (.ext (ExcAtD (T.ca c) (some dN) a)) ∧ H1 dN = some (.ext (PotAt dN n)) ∧ Q (.int n) H1) I ⟨μ, ρ, σ, hE, hr, hp.bind fun x σ1 μ1 v H1 _ e1 r1 p1 q1 => ?_⟩) fun u s1 ⟨v, H1, I1, rv, a, dN, c, n, ev, hcc, h1, h2, q⟩ => ?_)
  · unfold oPotX at q1
    cases x with
    | exn c =>
      dsimp only at q1
      cases hcc : cs.contains c with
      | false => rw [hcc] at q1; exact q1.elim
      | true =>
        cases hf : fdN c with
        | none => rw [hcc, hf] at q1; exact q1.elim
        | some n =>
          rw [hcc, hf] at q1
          rw [Rep] at p1
          obtain ⟨a, dd, rfl, _, h2, h3⟩ := p1
          obtain ⟨dN, rfl, _, h4⟩ := h3 n hf
          exact ⟨a, dN, c, n, rfl, hcc, h2, h4, Post.here q1 r1 (by rw [Rep])⟩
    | _ => exact q1.elim
  · subst ev
    obtain rfl : u = Value.ref a := rv
    obtain ⟨k1, k2⟩ := hc c hcc
    rw [hK] at k1 k2
    exact pot_get k1 k2 I1.kIn (I1.hok a _ h1).1 (I1.hok dN _ h2).1 fun t => ⟨.int n, H1, I1.tok _, ⟨t, rfl⟩, q⟩
/-- two dicts of ints that are alike, != -/
def rNeK : R2 := fun x y H Q => ∃ a b ka, x = .ref a ∧ y = .ref b ∧ H a = some (.dK ka) ∧ H b = some (.dK ka) ∧ (∀ p ∈ ka, ∃ i, p.2 = V.int i) ∧ Q (.bl false) H
theorem op_neK (hu : X.A.units + 9 < cLine) : OpR X (compareOp .NotEq) rNeK := by
  intro pins s st H x y v u Q I rx ry h
  obtain ⟨a, b, ka, rfl, rfl, ha, hb, hi, q⟩ := h
  obtain rfl : v = Value.ref a := rx
  obtain rfl : u = Value.ref b := ry
  obtain ⟨_, na, va, ra, da⟩ := dk_of I.hok ha
  obtain ⟨_, nb, vb, rb, db⟩ := dk_of I.hok hb
  have hl : va.length = vb.length := by rw [← ra.length, rb.length]
  obtain ⟨_, _, _, _, _, _, _, _, nd⟩ := id db
  refine PySem.W.keq_ne na nb da db (by omega) (fun _ => hits_of ra rb hi vb (valueAt_mem nd)) ⟨.bl false, H, I, ?_, q⟩
  rw [hl]; simp; exact rfl
def oNeK (x y : D) : M D := fun σ => match dcOf σ x with
  | some k1 => (match dcOf σ y with
    | some k2 => if likeK k1 k2 = true then .ok (.bl false) σ else .bad
    | none => .bad)
  | none => .bad
theorem snd_neK : SndOp T rNeK oNeK := by
  intro E μ H σ x y v u Q r p q h
  unfold oNeK at h
  cases e1 : dcOf σ x with
  | none => rw [e1] at h; exact h.elim
  | some k1 =>
    rw [e1] at h
    dsimp only at h
    cases e2 : dcOf σ y with
    | none => rw [e2] at h; exact h.elim
    | some k2 =>
      rw [e2] at h
      dsimp only at h
      by_cases hc : likeK k1 k2 = true
      · rw [if_pos hc] at h
        obtain ⟨a, va, rfl, h1, g1⟩ := rel_dc r p e1
        obtain ⟨b, vb, rfl, h2, g2⟩ := rel_dc r q e2
        obtain ⟨rfl, hi⟩ := like_rep g1 g2 hc
        exact ⟨a, b, va, rfl, rfl, h1, h2, hi, Post.here h r (by rw [Rep])⟩
      · rw [if_neg hc] at h; exact h.elim
end
theorem hca_at {ca : Nat → Addr} (h : ∀ c, c < 100 → ∀ n, n < 10 → ca (c + 100 * (n + 1)) = ca c) (c n : Nat) (hc : c < 100) (hn : n < 10) : ca (c + 100 * (n + 1)) = ca c := h c hc n hn
theorem code_get (l : List Addr) (c n : Nat) (h : c < 100) : l.getD ((c + 100 * (n + 1)) % 100) 0 = l.getD (c % 100) 0 := by
  congr 1; omega
theorem hz_init : ∀ n : Nat, n < 10 → (Str.empty ++ ("pot " : Str)).length ≤ sizeLine ∧ (Str.empty ++ ("pot " : Str) ++ Str.ofString (toString (n : Int))).length ≤ sizeLine ∧ (Str.empty ++ ("pot " : Str) ++ Str.ofString (toString (n : Int)) ++ (" is none" : Str)).length ≤ sizeLine := by
  decide +kernel
section
variable {ρ : Ev} {σ : Sto}
theorem oPotX_ap {cs : List Nat} {c n : Nat} (h : cs.contains c = true) (h2 : fdN c = some n) : oPotX cs (.exn c) σ = .ok (.int n) σ := by unfold oPotX; dsimp only; rw [h, h2]
theorem raisePK_ap {c n : Nat} (h : n < 10) : raisePK c ρ (.int n) σ = .ok (.xc ρ ⟨c + 100 * (n + 1)⟩) σ := by
  unfold raisePK; dsimp only; rw [if_pos ⟨by omega, by omega⟩, Int.toNat_natCast]; rfl
end
end L4

/-! t * 0, t * 1, t a tuple -/
namespace HT
open PySem Builtin
open Sem (wp)
theorem mul1_tup (t : Tok) (l : Addr) (items : Array Value) (n : Nat) (dd : Option Addr) (sl : Array (Option Value)) :
    Meets (Builtin.«tuple.__mul__» ⟨[.ref l, .int 1 t], []⟩) (fun _ R s => s.heap.get? l = some ⟨.type "tuple", dd, .seq items n, sl⟩ ∧ R (.ok (.ret (.ref l))) s) :=
  .of_wp fun prog w A R s h => by
    obtain ⟨hp, gg, d, tk, os⟩ := s; obtain ⟨hl, h⟩ := h
    have f1 := AutoSeq1.idx_int; have f2 := AutoSeq1.sub_tuple_tuple
    have e : (items.isEmpty || (1 : Int) == 1) = true := by simp
    wp_walk
    exact ⟨_, rfl, h⟩
theorem mul0_tup (t : Tok) (l : Addr) (items : Array Value) (n : Nat) (dd : Option Addr) (sl : Array (Option Value)) (h0 : items.isEmpty = false) :
    Meets (Builtin.«tuple.__mul__» ⟨[.ref l, .int 0 t], []⟩) (fun _ R s => s.heap.get? l = some ⟨.type "tuple", dd, .seq items n, sl⟩ ∧ R (.ok (.ret (.ref s.heap.objs.size))) { s with heap := s.heap.push { cls := .type "tuple", data := .seq #[] } }) :=
  .of_wp fun prog w A R s h => by
    obtain ⟨hp, gg, d, tk, os⟩ := s; obtain ⟨hl, h⟩ := h
    have f1 := AutoSeq1.idx_int
    wp_walk
    exact ⟨_, rfl, h⟩
theorem rep1_tup {prog : Program} {w : World} {A : Around} {E : Value → Shared → Prop} {s : Shared} {t : Addr} {vs : List Value} {tk : Tok} {Q : Value → Shared → Prop} (ht : ∃ o, s.heap.get? t = some o ∧ o.cls = .type "tuple" ∧ ∃ n, o.data = .seq vs.toArray n)
    (h1 : Q (.ref t) s) : wpAny (model prog w) A (binaryOp .Mult (.ref t) (.int 1 tk)) Q E s := by
  obtain ⟨⟨cls, dd, data, sl⟩, ho, hc, n, hd⟩ := ht
  simp only at hc hd
  subst hc hd
  refine wpAny_binaryOp_repeat_ref (T := "tuple") (U := "int") (by decide) ⟨_, ho, rfl⟩ (fun s' => typeIs_int s' 1 tk) noFill_tup_mul PySem.F.fills_int_mul PySem.F.slot_int_rmul repeat_tup PySem.F.slot_int_index.lookup
    (call_meets PySem.F.slot_int_rmul (typeIs_int s 1 tk) PySem.F.entry_int_rmul (PySem.F.args_int_rmul_2 _ _) (rmul_tup 1 tk t vs.toArray n dd sl) ⟨ho, rfl, ⟨_, ho, rfl⟩, ?_⟩)
  exact call_meets PySem.F.slot_tuple_mul ⟨_, ho, rfl⟩ PySem.F.entry_tuple_mul (PySem.F.args_tuple_mul_2 _ _) (mul1_tup tk t vs.toArray n dd sl) ⟨ho, h1⟩
theorem rep0_tup {prog : Program} {w : World} {A : Around} {E : Value → Shared → Prop} {s : Shared} {t : Addr} {vs : List Value} {tk : Tok} {Q : Value → Shared → Prop} (ht : ∃ o, s.heap.get? t = some o ∧ o.cls = .type "tuple" ∧ ∃ n, o.data = .seq vs.toArray n)
    (hv : vs ≠ []) (h1 : Q (.ref s.heap.objs.size) { s with heap := s.heap.push { cls := .type "tuple", data := .seq #[] } }) : wpAny (model prog w) A (binaryOp .Mult (.ref t) (.int 0 tk)) Q E s := by
  obtain ⟨⟨cls, dd, data, sl⟩, ho, hc, n, hd⟩ := ht
  simp only at hc hd
  subst hc hd
  refine wpAny_binaryOp_repeat_ref (T := "tuple") (U := "int") (by decide) ⟨_, ho, rfl⟩ (fun s' => typeIs_int s' 0 tk) noFill_tup_mul PySem.F.fills_int_mul PySem.F.slot_int_rmul repeat_tup PySem.F.slot_int_index.lookup
    (call_meets PySem.F.slot_int_rmul (typeIs_int s 0 tk) PySem.F.entry_int_rmul (PySem.F.args_int_rmul_2 _ _) (rmul_tup 0 tk t vs.toArray n dd sl) ⟨ho, rfl, ⟨_, ho, rfl⟩, ?_⟩)
  exact call_meets PySem.F.slot_tuple_mul ⟨_, ho, rfl⟩ PySem.F.entry_tuple_mul (PySem.F.args_tuple_mul_2 _ _) (mul0_tup tk t vs.toArray n dd sl (by simpa using hv)) ⟨ho, h1⟩
end HT
namespace L4
open PySem PySem.Spec PyProof.Rows L2
def oRep1T (x y : D) : M D := fun σ => match x, y with
  | .tup (d :: ds), .int k => if k = 1 then .ok (.tup (d :: ds)) σ else if k = 0 then .ok (.tup []) σ else .bad
  | _, _ => .bad
theorem op_rep1T {T : Tb} {X : Cx} : OpR X (binaryOp .Mult) (rD T oRep1T) := by
  intro pins s st H v u v' u' Q I rv ru h
  obtain ⟨E, μ, σ, x, y, r, hx, hy, hp⟩ := h
  unfold oRep1T at hp
  cases x with
  | tup xs =>
    cases xs with
    | nil => exact hp.elim
    | cons d ds =>
      cases y with
      | int k =>
        dsimp only at hp
        have hx0 := hx
        rw [Rep] at hx
        obtain ⟨p, vs, rfl, e1, e2⟩ := hx
        rw [Rep] at hy
        subst hy
        cases rv
        obtain ⟨tk, rfl⟩ := ru
        obtain ⟨its, r1, p1, _⟩ := I.tuple (SqT.of e1)
        by_cases h1 : k = 1
        · rw [if_pos h1] at hp
          subst h1
          exact HT.rep1_tup p1 ⟨.ref p, H, I, rfl, Post.here hp r hx0⟩
        · rw [if_neg h1] at hp
          by_cases h0 : k = 0
          · rw [if_pos h0] at hp
            subst h0
            have hne : its ≠ [] := fun z => by
              have : (d :: ds).length = its.length := by rw [e2.length, r1.length]
              rw [z] at this; simp at this
            refine HT.rep0_tup p1 hne ⟨.ref s.heap.objs.size, _, I.laid (t' := s.toks) (o := .tup []) (fun b ob q => Heap.get?_push_of_some _ q) (Nat.le_refl _) ?_, rfl, new_tup hp r RepL.nil (I.hok.fresh (Nat.le_refl _))⟩
            exact ⟨by decide, _, .nil, IsTup.new _ _⟩
          · rw [if_neg h0] at hp; exact hp.elim
      | _ => exact hp.elim
  | _ => exact hp.elim
theorem oRep1_1 (d : D) (ds : List D) (σ : Sto) : oRep1T (.tup (d :: ds)) (.int 1) σ = .ok (.tup (d :: ds)) σ := nr rfl
theorem oRep1_0 (d : D) (ds : List D) (σ : Sto) : oRep1T (.tup (d :: ds)) (.int 0) σ = .ok (.tup []) σ := nr rfl
/-! the codes of an exception -/
theorem ht_consC {K : PySem.W.Frag} {ca : Nat → Addr} {cv : Value} {c cd : Nat} {b : Bool} {l : List (Nat × Bool)} (e : ca cd = ca c) (h : PySem.W.exmOne K (.ref (ca c)) cv = some b) (r : HtOk K ca cv l) : HtOk K ca cv ((cd, b) :: l) := ht_cons (by rw [e]; exact h) r
theorem ix_consC {K : PySem.W.Frag} {ca : Nat → Addr} {cv : Value} {c cd : Nat} {b : Bool} {l : List (Nat × Bool)} (e : ca cd = ca c) (z : ExK K (ca c)) (h : PySem.W.kitOne K (.ref (ca c)) cv = some b) (r : IxOk K ca cv l) : IxOk K ca cv ((cd, b) :: l) := ix_cons (by rw [e]; exact z) (by rw [e]; exact h) r
theorem px_consC {T : Tb} {c cd : Nat} {cs : List Nat} (e : T.ca cd = T.ca c) (h1 : ExK T.K (T.ca c)) (h2 : PySem.W.findIn T.K (.ref (T.ca c)) "pot" = some none) (h : PxOk T cs) : PxOk T (cd :: cs) := px_cons (by rw [e]; exact h1) (by rw [e]; exact h2) h
end L4

set_option maxHeartbeats 0
namespace K13
open PySem PySem.Spec PyProof.Rows L2 L4

def top (i : Nat) : Stmt := PySem.Challenge.pw_sidebook_k13_what_makes_a_book.main.body.getD i (.Pass ⟨0, 0, 0, 0⟩)

structure Txt (K : PySem.W.Frag) (mg : Str → Option Value) (ca : Nat → Addr) : Prop where
  f__law_cell_at : HasFn K mg "_law_cell_at" (top 22) ["_law_script", "_law_k"]
  f__law_pot : HasFn K mg "_law_pot" (top 25) ["_law_cell"]
  f__law_odd : HasFn K mg "_law_odd" (top 24) ["_law_cell", "_law_most"]
  f__law_spoiled : HasFn K mg "_law_spoiled" (top 26) ["_law_pot_here", "_law_cell"]
  f__law_bound : HasFn K mg "_law_bound" (top 27) ["_law_thing", "_law_most"]
  f__law_good : HasFn K mg "_law_good" (top 28) ["_law_pot_here"]
  f_is_whole : HasFn K mg "is_whole" (top 4) ["thing"]
  f_is_between : HasFn K mg "is_between" (top 5) ["thing", "least", "most"]
  f_is_hand : HasFn K mg "is_hand" (top 6) ["thing"]
  f_makes_a_pot : HasFn K mg "makes_a_pot" (top 17) ["thing"]
  f_checked_pots : HasFn K mg "checked_pots" (top 18) ["pots"]
  f_Claim___init__ : HasM K (ca 3) "__init__" "Claim.__init__" (mthOf (top 12) 0) ["self", "whole"] (ca 6)
  f_whole_of : HasFn K mg "whole_of" (top 19) ["made"]
  f_Book___init__ : HasM K (ca 5) "__init__" "Book.__init__" (mthOf (top 20) 0) ["self", "pots"] (ca 10)
  f_Book_made_of : HasM K (ca 5) "made_of" "Book.made_of" (mthOf (top 20) 14) ["self"] (ca 24)
  f_Book_today : HasM K (ca 5) "today" "Book.today" (mthOf (top 20) 2) ["self"] (ca 12)
  f_Book_all_shown : HasM K (ca 5) "all_shown" "Book.all_shown" (mthOf (top 20) 13) ["self"] (ca 23)
  f_Book_check_pot : HasM K (ca 5) "check_pot" "Book.check_pot" (mthOf (top 20) 1) ["self", "pot"] (ca 11)
  f_Held_told : HasM K (ca 4) "told" "Held.told" (mthOf (top 13) 0) ["self"] (ca 7)
  f_Book_told : HasM K (ca 5) "told" "Book.told" (mthOf (top 20) 8) ["self", "pot"] (ca 18)
  f_Held_comes : HasM K (ca 4) "comes" "Held.comes" (mthOf (top 13) 1) ["self", "day", "shown"] (ca 8)
  f_Book_due_of : HasM K (ca 5) "due_of" "Book.due_of" (mthOf (top 20) 10) ["self", "pot"] (ca 20)
  f_Book_shown_for : HasM K (ca 5) "shown_for" "Book.shown_for" (mthOf (top 20) 9) ["self", "pot"] (ca 19)
  f_Book_coin_of : HasM K (ca 5) "coin_of" "Book.coin_of" (mthOf (top 20) 11) ["self", "hand"] (ca 21)
  f_Book_is_over : HasM K (ca 5) "is_over" "Book.is_over" (mthOf (top 20) 12) ["self"] (ca 22)
  f__law_begun : HasFn K mg "_law_begun" (top 29) ["_law_book", "_law_pots"]
  f_law : HasFn K mg "law" (top 30) ["_law_script"]
  n_ValueError : mg "ValueError" = none
  n_all : mg "all" = none
  n_bool : mg "bool" = none
  n_dict : mg "dict" = none
  n_enumerate : mg "enumerate" = none
  n_int : mg "int" = none
  n_isinstance : mg "isinstance" = none
  n_len : mg "len" = none
  n_list : mg "list" = none
  n_range : mg "range" = none
  n_sorted : mg "sorted" = none
  n_sum : mg "sum" = none
  n_tuple : mg "tuple" = none
  c_MOST_COIN : ∃ t, mg "MOST_COIN" = some (.int 1000000000000 t)
  c_MOST_HAND : ∃ t, mg "MOST_HAND" = some (.int 3 t)
  c_MOST_POT : ∃ t, mg "MOST_POT" = some (.int 2 t)
  c_MOST_WAIT : ∃ t, mg "MOST_WAIT" = some (.int 100 t)
  hca : ∀ c, c < 100 → ∀ n, n < 10 → ca (c + 100 * (n + 1)) = ca c
  f_NoPot___init__ : HasM K (ca 2) "__init__" "NoPot.__init__" (mthOf (top 10) 0) ["self", "pot"] (ca 25)
  ii_NoPot : L4.excII K (ca 2) L4.veB "ValueError.__new__" (ca 25) = true
  fc_NoPot : (K.lookup (ca 25)).any (fun o => o.cls == .type "function") = true
  kp_NoPot : PySem.W.keepIn K (.ref (ca 2)) = true
  sa_NoPot : PySem.W.findIn K (.ref (ca 2)) "__setattr__" = some (some (.builtin "object.__setattr__"))
  np_NoPot : PySem.W.findIn K (.ref (ca 2)) "pot" = some none
  mo_NoPot : PySem.W.mroIn K (ca 2) (.type "object") = some true
  bs_NoPot : PySem.W.specialIn K (.ref (ca 0)) (Str.ofString "__getattribute__") = some (some (.builtin "type.__getattribute__"))
  br_NoPot : PySem.W.readsIn K (ca 0) (.type "type") = true
  bf_NoPot : PySem.W.findCls K (.ref (ca 0)) (.type "type") "__init__" = some (.val (.builtin "ValueError.__init__"))
  m_BookError : mg "BookError" = some (.ref (ca 0))
  x_BookError : PySem.W.excIn K (ca 0) veB "ValueError.__new__" = true
  m_NoDeed : mg "NoDeed" = some (.ref (ca 1))
  x_NoDeed : PySem.W.excIn K (ca 1) veB "ValueError.__new__" = true
  m_NoPot : mg "NoPot" = some (.ref (ca 2))
  e_BookError_NoPot : PySem.W.exmOne K (.ref (ca 0)) (.ref (ca 2)) = some false
  e_NoDeed_NoPot : PySem.W.exmOne K (.ref (ca 1)) (.ref (ca 2)) = some false
  e_NoPot_NoPot : PySem.W.exmOne K (.ref (ca 2)) (.ref (ca 2)) = some true
  xk_NoPot : L4.ExK K (ca 2)
  xk_NoDeed : L4.ExK K (ca 1)
  xk_BookError : L4.ExK K (ca 0)
  i_BookError_BookError : PySem.W.kitOne K (.ref (ca 0)) (.ref (ca 0)) = some true
  i_BookError_NoDeed : PySem.W.kitOne K (.ref (ca 0)) (.ref (ca 1)) = some false
  i_BookError_ValueError : PySem.W.kitOne K (.ref (ca 0)) (.type "ValueError") = some true
  i_NoDeed_BookError : PySem.W.kitOne K (.ref (ca 1)) (.ref (ca 0)) = some true
  i_NoDeed_NoDeed : PySem.W.kitOne K (.ref (ca 1)) (.ref (ca 1)) = some true
  i_NoDeed_ValueError : PySem.W.kitOne K (.ref (ca 1)) (.type "ValueError") = some true
  i_NoPot_BookError : PySem.W.kitOne K (.ref (ca 2)) (.ref (ca 0)) = some true
  i_NoPot_NoDeed : PySem.W.kitOne K (.ref (ca 2)) (.ref (ca 1)) = some false
  i_NoPot_ValueError : PySem.W.kitOne K (.ref (ca 2)) (.type "ValueError") = some true
  cl_Book : L2.Cls K (ca 5)
  na_Book_pots : L2.NoAttr K (ca 5) "pots"
  na_Book_day : L2.NoAttr K (ca 5) "day"
  cl_Held : L2.Cls K (ca 4)
  na_Held_whole : L2.NoAttr K (ca 4) "whole"
  cl_Claim : L2.Cls K (ca 3)
  na_Claim_whole : L2.NoAttr K (ca 3) "whole"
  m_Held : mg "Held" = some (.ref (ca 4))
  mk_Held : L2.Mk K (ca 4) (ca 6)
  na_Book_claims : L2.NoAttr K (ca 5) "claims"
  na_Book_shown : L2.NoAttr K (ca 5) "shown"
  m_Book : mg "Book" = some (.ref (ca 5))
  mk_Book : L2.Mk K (ca 5) (ca 10)
  me_Book_made_of : L2.Meth K (ca 5) "made_of" (ca 24)
  me_Book_today : L2.Meth K (ca 5) "today" (ca 12)
  me_Book_all_shown : L2.Meth K (ca 5) "all_shown" (ca 23)
  me_Book_check_pot : L2.Meth K (ca 5) "check_pot" (ca 11)
  me_Held_told : L2.Meth K (ca 4) "told" (ca 7)
  me_Book_told : L2.Meth K (ca 5) "told" (ca 18)
  me_Held_comes : L2.Meth K (ca 4) "comes" (ca 8)
  me_Book_due_of : L2.Meth K (ca 5) "due_of" (ca 20)
  me_Book_shown_for : L2.Meth K (ca 5) "shown_for" (ca 19)
  me_Book_coin_of : L2.Meth K (ca 5) "coin_of" (ca 21)
  me_Book_is_over : L2.Meth K (ca 5) "is_over" (ca 22)

section
variable {P : Program} {w : World} {K : PySem.W.Frag} {mg : Str → Option Value} {base : Heap} {ca : Nat → Addr}

abbrev s__law_cell_at : Stmt := top 22
noncomputable def g__law_cell_at : Ev → M Fl :=
  (sSeq (sIf (eT (eBin oLt (eVar 1) (eCall oLen (aCons (eVar 0) aNil)))) (sRet (eBin oIx (eVar 0) (eVar 1))) sNil)
  (sRet (eC (.int 0))))
noncomputable def f__law_cell_at : List D → M D := hide fun ds => frz (run 2 g__law_cell_at ds)
theorem sc__law_cell_at : FnScope ["_law_script", "_law_k"] ["_law_script", "_law_k"] (defScope s__law_cell_at) := ⟨rfl, rfl, rfl, by decide +kernel, rfl, by decide +kernel, by decide +kernel⟩
theorem bd__law_cell_at : ∀ (kV doc pm : Value) (an : Option Addr) (cdv ct : Value) (us : List Value), us.length = (["_law_script", "_law_k"] : List Str).length → bindArgs (PySem.W.fnOf "_law_cell_at" "_law_cell_at" (defArgs s__law_cell_at) (defBody s__law_cell_at) (defScope s__law_cell_at) .none kV doc pm an cdv ct) ⟨us, []⟩ = pure ((["_law_script", "_law_k"] : List Str).zip us) :=
  fun _ _ _ _ _ _ us hl => match us, hl with | [_, _], _ => rfl
theorem ok__law_cell_at (Xt : Txt K mg ca) : OkF ⟨K, ca⟩ P w mg base 1 "_law_cell_at" ["_law_script", "_law_k"] f__law_cell_at :=
  OkF.hide (OkF.frz (ok_of Xt.f__law_cell_at sc__law_cell_at fun _ _ _ _ _ _ _ hr =>
    (fss_cons (fs_if (ft_cmp op_lt snd_lt (fe_var 1) (fe_callB call_len_seq (snd_len rfl) rfl Xt.n_len PySem.boot_len (fa_cons (fe_var 0) fa_nil)) (nomark _)) (fss_one (fs_ret (fe_ix ix_D (snd_ix rfl) (fe_var 0) (fe_var 1) (fun _ _ => rfl)))) fss_nil)
    (fss_one (fs_ret fe_int)))))

abbrev s__law_pot : Stmt := top 25
noncomputable def g__law_pot : Ev → M Fl :=
  (sSeq (sSet 1 (eBin oMod (eVar 0) (eC (.int 4))))
  (sSeq (sSet 2 (eBin oMod (eBin oAdd (eBin oAdd (eVar 1) (eC (.int 1))) (eBin oMod (eBin oDiv (eVar 0) (eC (.int 4))) (eC (.int 3)))) (eC (.int 4))))
  (sSeq (sSet 3 (eLv (aCons (eBin oMod (eBin oDiv (eVar 0) (eC (.int 12))) (eBin oPow (eC (.int 10)) (eC (.int 12)))) (aCons (eBin oMod (eBin oDiv (eVar 0) (eC (.int 12))) (eC (.int 50))) (aCons (eBin oPow (eC (.int 10)) (eC (.int 12))) (aCons (eC (.int 0)) aNil))))))
  (sRet (eTup (aCons (eVar 1) (aCons (eVar 2) (aCons (eBin oIx (eVar 3) (eBin oMod (eBin oDiv (eVar 0) (eC (.int 5))) (eC (.int 4)))) (aCons (eBin oIx (eVar 3) (eBin oMod (eBin oDiv (eVar 0) (eC (.int 20))) (eC (.int 4)))) (aCons (eBin oIx (eLv (aCons (eBin oAdd (eC (.int 1)) (eBin oMod (eBin oDiv (eVar 0) (eC (.int 12))) (eC (.int 100)))) (aCons (eC (.int 1)) (aCons (eC (.int 100)) aNil)))) (eBin oMod (eBin oDiv (eVar 0) (eC (.int 7))) (eC (.int 3)))) aNil))))))))))
noncomputable def f__law_pot : List D → M D := hide fun ds => frz (run 4 g__law_pot ds)
theorem sc__law_pot : FnScope ["_law_cell", "_law_left", "_law_right", "_law_coins"] ["_law_cell"] (defScope s__law_pot) := ⟨rfl, rfl, rfl, by decide +kernel, rfl, by decide +kernel, by decide +kernel⟩
theorem bd__law_pot : ∀ (kV doc pm : Value) (an : Option Addr) (cdv ct : Value) (us : List Value), us.length = (["_law_cell"] : List Str).length → bindArgs (PySem.W.fnOf "_law_pot" "_law_pot" (defArgs s__law_pot) (defBody s__law_pot) (defScope s__law_pot) .none kV doc pm an cdv ct) ⟨us, []⟩ = pure ((["_law_cell"] : List Str).zip us) :=
  fun _ _ _ _ _ _ us hl => match us, hl with | [_], _ => rfl
theorem ok__law_pot (Xt : Txt K mg ca) : OkF ⟨K, ca⟩ P w mg base 1 "_law_pot" ["_law_cell"] f__law_pot :=
  OkF.hide (OkF.frz (ok_of Xt.f__law_pot sc__law_pot fun _ _ _ _ _ _ _ hr =>
    (fss_cons (fs_set (i := 1) sc__law_pot.nd rfl (Or.inl rfl) (fe_op op_mod snd_mod (fe_var 0) fe_int))
    (fss_cons (fs_set (i := 2) sc__law_pot.nd rfl (Or.inl rfl) (fe_op op_mod snd_mod (fe_op (op_addD rfl) sndD (fe_op (op_addD rfl) sndD (fe_var 1) fe_int) (fe_op op_mod snd_mod (fe_op op_fdiv snd_div (fe_var 0) fe_int) fe_int)) fe_int))
    (fss_cons (fs_set (i := 3) sc__law_pot.nd rfl (Or.inl rfl) (fe_lv (fa_cons (fe_op op_mod snd_mod (fe_op op_fdiv snd_div (fe_var 0) fe_int) (fe_op op_pow snd_pow fe_int fe_int)) (fa_cons (fe_op op_mod snd_mod (fe_op op_fdiv snd_div (fe_var 0) fe_int) fe_int) (fa_cons (fe_op op_pow snd_pow fe_int fe_int) (fa_cons fe_int fa_nil))))))
    (fss_one (fs_ret (fe_tup (fa_cons (fe_var 1) (fa_cons (fe_var 2) (fa_cons (fe_ix ix_D (snd_ix rfl) (fe_var 3) (fe_op op_mod snd_mod (fe_op op_fdiv snd_div (fe_var 0) fe_int) fe_int) (fun _ _ => rfl)) (fa_cons (fe_ix ix_D (snd_ix rfl) (fe_var 3) (fe_op op_mod snd_mod (fe_op op_fdiv snd_div (fe_var 0) fe_int) fe_int) (fun _ _ => rfl)) (fa_cons (fe_ix ix_D (snd_ix rfl) (fe_lv (fa_cons (fe_op (op_addD rfl) sndD fe_int (fe_op op_mod snd_mod (fe_op op_fdiv snd_div (fe_var 0) fe_int) fe_int)) (fa_cons fe_int (fa_cons fe_int fa_nil)))) (fe_op op_mod snd_mod (fe_op op_fdiv snd_div (fe_var 0) fe_int) fe_int) (fun _ _ => rfl)) fa_nil)))))))))))))

abbrev s__law_odd : Stmt := top 24
noncomputable def g__law_odd : Ev → M Fl :=
  (sSeq (sSet 2 (eBin oAdd (eC (.int 1)) (eBin oMod (eBin oDiv (eVar 0) (eC (.int 9))) (eBin oPow (eC (.int 10)) (eC (.int 40))))))
  (sRet (eBin oIx (eLv (aCons (eC (.int 0)) (aCons (eVar 1) (aCons (eBin oAdd (eVar 1) (eC (.int 1))) (aCons (eUn oNeg (eC (.int 1))) (aCons (eUn oNeg (eVar 2)) (aCons (eBin oAdd (eVar 1) (eVar 2)) (aCons (eC .non) (aCons (eC (.bl true)) (aCons (eC (.str "1")) aNil)))))))))) (eBin oMod (eVar 0) (eC (.int 9))))))
noncomputable def f__law_odd : List D → M D := hide fun ds => frz (run 3 g__law_odd ds)
theorem sc__law_odd : FnScope ["_law_cell", "_law_most", "_law_far"] ["_law_cell", "_law_most"] (defScope s__law_odd) := ⟨rfl, rfl, rfl, by decide +kernel, rfl, by decide +kernel, by decide +kernel⟩
theorem bd__law_odd : ∀ (kV doc pm : Value) (an : Option Addr) (cdv ct : Value) (us : List Value), us.length = (["_law_cell", "_law_most"] : List Str).length → bindArgs (PySem.W.fnOf "_law_odd" "_law_odd" (defArgs s__law_odd) (defBody s__law_odd) (defScope s__law_odd) .none kV doc pm an cdv ct) ⟨us, []⟩ = pure ((["_law_cell", "_law_most"] : List Str).zip us) :=
  fun _ _ _ _ _ _ us hl => match us, hl with | [_, _], _ => rfl
theorem ok__law_odd (Xt : Txt K mg ca) : OkF ⟨K, ca⟩ P w mg base 1 "_law_odd" ["_law_cell", "_law_most"] f__law_odd :=
  OkF.hide (OkF.frz (ok_of Xt.f__law_odd sc__law_odd fun _ _ _ _ _ _ _ hr =>
    (fss_cons (fs_set (i := 2) sc__law_odd.nd rfl (Or.inl rfl) (fe_op (op_addD rfl) sndD fe_int (fe_op op_mod snd_mod (fe_op op_fdiv snd_div (fe_var 0) fe_int) (fe_op op_pow snd_pow fe_int fe_int))))
    (fss_one (fs_ret (fe_ix ix_D (snd_ix rfl) (fe_lv (fa_cons fe_int (fa_cons (fe_var 1) (fa_cons (fe_op (op_addD rfl) sndD (fe_var 1) fe_int) (fa_cons (fe_un un_neg snd_neg fe_int) (fa_cons (fe_un un_neg snd_neg (fe_var 2)) (fa_cons (fe_op (op_addD rfl) sndD (fe_var 1) (fe_var 2)) (fa_cons fe_non (fa_cons fe_bl (fa_cons fe_str fa_nil)))))))))) (fe_op op_mod snd_mod (fe_var 0) fe_int) (fun _ _ => rfl)))))))

abbrev s__law_spoiled : Stmt := top 26
noncomputable def g__law_spoiled : Ev → M Fl :=
  (sSeq (sSet 2 (eBin oMod (eVar 1) (eC (.int 8))))
  (sSeq (sSet 1 (eBin oDiv (eVar 1) (eC (.int 8))))
  (sSeq (sIf (eT (eBin oLt (eVar 2) (eC (.int 5)))) (sRet (eBin oAdd (eBin oAdd (eSl (eVar 0) none (some (eVar 2))) (eTup (aCons (eFn 2 f__law_odd [] (aCons (eVar 1) (aCons (eBin oIx (eLv (aCons (eC (.int 3)) (aCons (eC (.int 3)) (aCons (eBin oPow (eC (.int 10)) (eC (.int 12))) (aCons (eBin oPow (eC (.int 10)) (eC (.int 12))) (aCons (eC (.int 100)) aNil)))))) (eVar 2)) aNil))) aNil))) (eSl (eVar 0) (some (eBin oAdd (eVar 2) (eC (.int 1)))) none))) sNil)
  (sSeq (sIf (eT (eBin oEq (eVar 2) (eC (.int 5)))) (sRet (eBin oAdd (eTup (aCons (eBin oIx (eVar 0) (eC (.int 0))) (aCons (eBin oIx (eVar 0) (eC (.int 0))) aNil))) (eSl (eVar 0) (some (eC (.int 2))) none))) sNil)
  (sSeq (sIf (eT (eBin oEq (eVar 2) (eC (.int 6)))) (sRet (eBin oAdd (eSl (eVar 0) none (some (eBin oAdd (eC (.int 4)) (eBin oMul (eBin oMod (eVar 1) (eC (.int 2))) (eC (.int 9)))))) (eBin oRep1T (eTup (aCons (eC (.int 5)) aNil)) (eBin oMod (eVar 1) (eC (.int 2)))))) sNil)
  (sRet (eBin oIx (eLv (aCons (eFrz (eCall oList (aCons (eVar 0) aNil))) (aCons (eC .non) (aCons (eC (.int 4)) aNil)))) (eBin oMod (eVar 1) (eC (.int 3))))))))))
noncomputable def f__law_spoiled : List D → M D := hide fun ds => frz (run 3 g__law_spoiled ds)
theorem sc__law_spoiled : FnScope ["_law_pot_here", "_law_cell", "_law_way"] ["_law_pot_here", "_law_cell"] (defScope s__law_spoiled) := ⟨rfl, rfl, rfl, by decide +kernel, rfl, by decide +kernel, by decide +kernel⟩
theorem bd__law_spoiled : ∀ (kV doc pm : Value) (an : Option Addr) (cdv ct : Value) (us : List Value), us.length = (["_law_pot_here", "_law_cell"] : List Str).length → bindArgs (PySem.W.fnOf "_law_spoiled" "_law_spoiled" (defArgs s__law_spoiled) (defBody s__law_spoiled) (defScope s__law_spoiled) .none kV doc pm an cdv ct) ⟨us, []⟩ = pure ((["_law_pot_here", "_law_cell"] : List Str).zip us) :=
  fun _ _ _ _ _ _ us hl => match us, hl with | [_, _], _ => rfl
theorem ok__law_spoiled (Xt : Txt K mg ca) : OkF ⟨K, ca⟩ P w mg base 2 "_law_spoiled" ["_law_pot_here", "_law_cell"] f__law_spoiled :=
  OkF.hide (OkF.frz (ok_of Xt.f__law_spoiled sc__law_spoiled fun _ _ _ _ _ _ _ hr =>
    (fss_cons (fs_set (i := 2) sc__law_spoiled.nd rfl (Or.inl rfl) (fe_op op_mod snd_mod (fe_var 1) fe_int))
    (fss_cons (fs_set (i := 1) sc__law_spoiled.nd rfl (Or.inl rfl) (fe_op op_fdiv snd_div (fe_var 1) fe_int))
    (fss_cons (fs_if (ft_cmp op_lt snd_lt (fe_var 2) fe_int (nomark _)) (fss_one (fs_ret (fe_op (op_addD rfl) sndD (fe_op (op_addD rfl) sndD (fe_slice rfl (fe_var 0) fo_none (fo_some (fe_var 2))) (fe_tup (fa_cons (fe_callO (ok__law_odd Xt) rfl (hr.mono (by decide)) rfl (fa_cons (fe_var 1) (fa_cons (fe_ix ix_D (snd_ix rfl) (fe_lv (fa_cons fe_int (fa_cons fe_int (fa_cons (fe_op op_pow snd_pow fe_int fe_int) (fa_cons (fe_op op_pow snd_pow fe_int fe_int) (fa_cons fe_int fa_nil)))))) (fe_var 2) (fun _ _ => rfl)) fa_nil))) fa_nil))) (fe_slice rfl (fe_var 0) (fo_some (fe_op (op_addD rfl) sndD (fe_var 2) fe_int)) fo_none)))) fss_nil)
    (fss_cons (fs_if (ft_cmp (op_eqD (hu9 hr)) sndD (fe_var 2) fe_int (nomark _)) (fss_one (fs_ret (fe_op (op_addD rfl) sndD (fe_tup (fa_cons (fe_ix ix_D (snd_ix rfl) (fe_var 0) fe_int (fun _ _ => rfl)) (fa_cons (fe_ix ix_D (snd_ix rfl) (fe_var 0) fe_int (fun _ _ => rfl)) fa_nil))) (fe_slice rfl (fe_var 0) (fo_some fe_int) fo_none)))) fss_nil)
    (fss_cons (fs_if (ft_cmp (op_eqD (hu9 hr)) sndD (fe_var 2) fe_int (nomark _)) (fss_one (fs_ret (fe_op (op_addD rfl) sndD (fe_slice rfl (fe_var 0) fo_none (fo_some (fe_op (op_addD rfl) sndD fe_int (fe_op op_mul snd_mul (fe_op op_mod snd_mod (fe_var 1) fe_int) fe_int)))) (fe_op op_rep1T sndD (fe_tup (fa_cons fe_int fa_nil)) (fe_op op_mod snd_mod (fe_var 1) fe_int))))) fss_nil)
    (fss_one (fs_ret (fe_ix ix_D (snd_ix rfl) (fe_lv (fa_cons (fe_frz (fe_callTy call_list_of (snd_list rfl) rfl Xt.n_list boot_list (fa_cons (fe_var 0) fa_nil))) (fa_cons fe_non (fa_cons fe_int fa_nil)))) (fe_op op_mod snd_mod (fe_var 1) fe_int) (fun _ _ => rfl)))))))))))

abbrev s__law_bound : Stmt := top 27
noncomputable def g__law_bound : Ev → M Fl :=
  (sRet (eAnd (eUn (oIsB .int) (eVar 0)) (eAnd (eNot (eUn (oIsB .bool) (eVar 0))) (eChain oLe oLe (eC (.int 0)) (eVar 0) (eVar 1)))))
noncomputable def f__law_bound : List D → M D := hide fun ds => frz (run 2 g__law_bound ds)
theorem sc__law_bound : FnScope ["_law_thing", "_law_most"] ["_law_thing", "_law_most"] (defScope s__law_bound) := ⟨rfl, rfl, rfl, by decide +kernel, rfl, by decide +kernel, by decide +kernel⟩
theorem bd__law_bound : ∀ (kV doc pm : Value) (an : Option Addr) (cdv ct : Value) (us : List Value), us.length = (["_law_thing", "_law_most"] : List Str).length → bindArgs (PySem.W.fnOf "_law_bound" "_law_bound" (defArgs s__law_bound) (defBody s__law_bound) (defScope s__law_bound) .none kV doc pm an cdv ct) ⟨us, []⟩ = pure ((["_law_thing", "_law_most"] : List Str).zip us) :=
  fun _ _ _ _ _ _ us hl => match us, hl with | [_, _], _ => rfl
theorem ok__law_bound (Xt : Txt K mg ca) : OkF ⟨K, ca⟩ P w mg base 1 "_law_bound" ["_law_thing", "_law_most"] f__law_bound :=
  OkF.hide (OkF.frz (ok_of Xt.f__law_bound sc__law_bound fun _ _ _ _ _ _ _ hr =>
    (fss_one (fs_ret (fe_and (fe_isB .int (fe_var 0) rfl Xt.n_isinstance rfl Xt.n_int boot_int) (fe_and (fe_not (fe_isB .bool (fe_var 0) rfl Xt.n_isinstance rfl Xt.n_bool boot_bool)) (fe_one (fe_chain op_le snd_le op_le snd_le fe_int (fe_var 0) (fe_var 1)))))))))

abbrev s__law_good : Stmt := top 28
noncomputable def g__law_good : Ev → M Fl :=
  (sSeq (sIf (bOr (bNot (eT (eUn (oIsB .tuple) (eVar 0)))) (bOr (eT (eBin oNe (eCall oLen (aCons (eVar 0) aNil)) (eC (.int 5)))) (bOr (bNot (eT (eFn 2 f__law_bound [] (aCons (eBin oIx (eVar 0) (eC (.int 0))) (aCons (eC (.int 3)) aNil))))) (bNot (eT (eFn 2 f__law_bound [] (aCons (eBin oIx (eVar 0) (eC (.int 1))) (aCons (eC (.int 3)) aNil)))))))) (sRet (eC (.bl false))) sNil)
  (sSeq (sIf (bOr (eT (eBin oEq (eBin oIx (eVar 0) (eC (.int 0))) (eBin oIx (eVar 0) (eC (.int 1))))) (bOr (bNot (eT (eFn 2 f__law_bound [] (aCons (eBin oIx (eVar 0) (eC (.int 2))) (aCons (eBin oPow (eC (.int 10)) (eC (.int 12))) aNil))))) (bNot (eT (eFn 2 f__law_bound [] (aCons (eBin oIx (eVar 0) (eC (.int 3))) (aCons (eBin oPow (eC (.int 10)) (eC (.int 12))) aNil))))))) (sRet (eC (.bl false))) sNil)
  (sRet (eAnd (eFn 2 f__law_bound [] (aCons (eBin oIx (eVar 0) (eC (.int 4))) (aCons (eC (.int 100)) aNil))) (eBin oGt (eBin oIx (eVar 0) (eC (.int 4))) (eC (.int 0)))))))
noncomputable def f__law_good : List D → M D := hide fun ds => frz (run 1 g__law_good ds)
theorem sc__law_good : FnScope ["_law_pot_here"] ["_law_pot_here"] (defScope s__law_good) := ⟨rfl, rfl, rfl, by decide +kernel, rfl, by decide +kernel, by decide +kernel⟩
theorem bd__law_good : ∀ (kV doc pm : Value) (an : Option Addr) (cdv ct : Value) (us : List Value), us.length = (["_law_pot_here"] : List Str).length → bindArgs (PySem.W.fnOf "_law_good" "_law_good" (defArgs s__law_good) (defBody s__law_good) (defScope s__law_good) .none kV doc pm an cdv ct) ⟨us, []⟩ = pure ((["_law_pot_here"] : List Str).zip us) :=
  fun _ _ _ _ _ _ us hl => match us, hl with | [_], _ => rfl
theorem ok__law_good (Xt : Txt K mg ca) : OkF ⟨K, ca⟩ P w mg base 2 "_law_good" ["_law_pot_here"] f__law_good :=
  OkF.hide (OkF.frz (ok_of Xt.f__law_good sc__law_good fun _ _ _ _ _ _ _ hr =>
    (fss_cons (fs_if (L2.PW.pt (fw_or (ft_not (ft_val (fe_isB .tuple (fe_var 0) rfl Xt.n_isinstance rfl Xt.n_tuple boot_tuple))) (fw_or (ft_cmp (op_neD (hu9 hr)) sndD (fe_callB call_len_seq (snd_len rfl) rfl Xt.n_len PySem.boot_len (fa_cons (fe_var 0) fa_nil)) fe_int (nomark _)) (fw_or (ft_not (ft_val (fe_callO (ok__law_bound Xt) rfl (hr.mono (by decide)) rfl (fa_cons (fe_ix ix_D (snd_ix rfl) (fe_var 0) fe_int (fun _ _ => rfl)) (fa_cons fe_int fa_nil))))) (fw_or1 (ft_not (ft_val (fe_callO (ok__law_bound Xt) rfl (hr.mono (by decide)) rfl (fa_cons (fe_ix ix_D (snd_ix rfl) (fe_var 0) fe_int (fun _ _ => rfl)) (fa_cons fe_int fa_nil)))))))))) (fss_one (fs_ret fe_bl)) fss_nil)
    (fss_cons (fs_if (L2.PW.pt (fw_or (ft_cmp (op_eqD (hu9 hr)) sndD (fe_ix ix_D (snd_ix rfl) (fe_var 0) fe_int (fun _ _ => rfl)) (fe_ix ix_D (snd_ix rfl) (fe_var 0) fe_int (fun _ _ => rfl)) (nomark _)) (fw_or (ft_not (ft_val (fe_callO (ok__law_bound Xt) rfl (hr.mono (by decide)) rfl (fa_cons (fe_ix ix_D (snd_ix rfl) (fe_var 0) fe_int (fun _ _ => rfl)) (fa_cons (fe_op op_pow snd_pow fe_int fe_int) fa_nil))))) (fw_or1 (ft_not (ft_val (fe_callO (ok__law_bound Xt) rfl (hr.mono (by decide)) rfl (fa_cons (fe_ix ix_D (snd_ix rfl) (fe_var 0) fe_int (fun _ _ => rfl)) (fa_cons (fe_op op_pow snd_pow fe_int fe_int) fa_nil))))))))) (fss_one (fs_ret fe_bl)) fss_nil)
    (fss_one (fs_ret (fe_and (fe_callO (ok__law_bound Xt) rfl (hr.mono (by decide)) rfl (fa_cons (fe_ix ix_D (snd_ix rfl) (fe_var 0) fe_int (fun _ _ => rfl)) (fa_cons fe_int fa_nil))) (fe_one (fe_cmp op_gt snd_gt (fe_ix ix_D (snd_ix rfl) (fe_var 0) fe_int (fun _ _ => rfl)) fe_int (nomark _))))))))))

abbrev s_is_whole : Stmt := top 4
noncomputable def g_is_whole : Ev → M Fl :=
  (sRet (eAnd (eUn (oIsB .int) (eVar 0)) (eNot (eUn (oIsB .bool) (eVar 0)))))
noncomputable def f_is_whole : List D → M D := hide fun ds => frz (run 1 g_is_whole ds)
theorem sc_is_whole : FnScope ["thing"] ["thing"] (defScope s_is_whole) := ⟨rfl, rfl, rfl, by decide +kernel, rfl, by decide +kernel, by decide +kernel⟩
theorem bd_is_whole : ∀ (kV doc pm : Value) (an : Option Addr) (cdv ct : Value) (us : List Value), us.length = (["thing"] : List Str).length → bindArgs (PySem.W.fnOf "is_whole" "is_whole" (defArgs s_is_whole) (defBody s_is_whole) (defScope s_is_whole) .none kV doc pm an cdv ct) ⟨us, []⟩ = pure ((["thing"] : List Str).zip us) :=
  fun _ _ _ _ _ _ us hl => match us, hl with | [_], _ => rfl
theorem ok_is_whole (Xt : Txt K mg ca) : OkF ⟨K, ca⟩ P w mg base 1 "is_whole" ["thing"] f_is_whole :=
  OkF.hide (OkF.frz (ok_of Xt.f_is_whole sc_is_whole fun _ _ _ _ _ _ _ hr =>
    (fss_one (fs_ret (fe_and (fe_isB .int (fe_var 0) rfl Xt.n_isinstance rfl Xt.n_int boot_int) (fe_one (fe_not (fe_isB .bool (fe_var 0) rfl Xt.n_isinstance rfl Xt.n_bool boot_bool))))))))

abbrev s_is_between : Stmt := top 5
noncomputable def g_is_between : Ev → M Fl :=
  (sRet (eAnd (eFn 1 f_is_whole [] (aCons (eVar 0) aNil)) (eChain oLe oLe (eVar 1) (eVar 0) (eVar 2))))
noncomputable def f_is_between : List D → M D := hide fun ds => frz (run 3 g_is_between ds)
theorem sc_is_between : FnScope ["thing", "least", "most"] ["thing", "least", "most"] (defScope s_is_between) := ⟨rfl, rfl, rfl, by decide +kernel, rfl, by decide +kernel, by decide +kernel⟩
theorem bd_is_between : ∀ (kV doc pm : Value) (an : Option Addr) (cdv ct : Value) (us : List Value), us.length = (["thing", "least", "most"] : List Str).length → bindArgs (PySem.W.fnOf "is_between" "is_between" (defArgs s_is_between) (defBody s_is_between) (defScope s_is_between) .none kV doc pm an cdv ct) ⟨us, []⟩ = pure ((["thing", "least", "most"] : List Str).zip us) :=
  fun _ _ _ _ _ _ us hl => match us, hl with | [_, _, _], _ => rfl
theorem ok_is_between (Xt : Txt K mg ca) : OkF ⟨K, ca⟩ P w mg base 2 "is_between" ["thing", "least", "most"] f_is_between :=
  OkF.hide (OkF.frz (ok_of Xt.f_is_between sc_is_between fun _ _ _ _ _ _ _ hr =>
    (fss_one (fs_ret (fe_and (fe_callO (ok_is_whole Xt) rfl (hr.mono (by decide)) rfl (fa_cons (fe_var 0) fa_nil)) (fe_one (fe_chain op_le snd_le op_le snd_le (fe_var 1) (fe_var 0) (fe_var 2))))))))

abbrev s_is_hand : Stmt := top 6
noncomputable def g_is_hand : Ev → M Fl :=
  (sRet (eFn 3 f_is_between [] (aCons (eVar 0) (aCons (eC (.int 0)) (aCons (eC (.int 3)) aNil)))))
noncomputable def f_is_hand : List D → M D := hide fun ds => frz (run 1 g_is_hand ds)
theorem sc_is_hand : FnScope ["thing"] ["thing"] (defScope s_is_hand) := ⟨rfl, rfl, rfl, by decide +kernel, rfl, by decide +kernel, by decide +kernel⟩
theorem bd_is_hand : ∀ (kV doc pm : Value) (an : Option Addr) (cdv ct : Value) (us : List Value), us.length = (["thing"] : List Str).length → bindArgs (PySem.W.fnOf "is_hand" "is_hand" (defArgs s_is_hand) (defBody s_is_hand) (defScope s_is_hand) .none kV doc pm an cdv ct) ⟨us, []⟩ = pure ((["thing"] : List Str).zip us) :=
  fun _ _ _ _ _ _ us hl => match us, hl with | [_], _ => rfl
theorem ok_is_hand (Xt : Txt K mg ca) : OkF ⟨K, ca⟩ P w mg base 3 "is_hand" ["thing"] f_is_hand :=
  OkF.hide (OkF.frz (ok_of Xt.f_is_hand sc_is_hand fun _ _ _ _ _ _ _ hr =>
    (fss_one (fs_ret (fe_callO (ok_is_between Xt) rfl (hr.mono (by decide)) rfl (fa_cons (fe_var 0) (fa_cons fe_int (fa_cons (fe_globI (u := .int 3 (Xt.c_MOST_HAND).choose) rfl (Xt.c_MOST_HAND).choose_spec ⟨_, rfl⟩) fa_nil))))))))

abbrev s_makes_a_pot : Stmt := top 17
noncomputable def g_makes_a_pot : Ev → M Fl :=
  (sRet (eAnd (eUn (oIsB .tuple) (eVar 0)) (eAnd (eBin oEq (eCall oLen (aCons (eVar 0) aNil)) (eC (.int 5))) (eAnd (eFn 1 f_is_hand [] (aCons (eBin oIx (eVar 0) (eC (.int 0))) aNil)) (eAnd (eFn 1 f_is_hand [] (aCons (eBin oIx (eVar 0) (eC (.int 1))) aNil)) (eAnd (eBin oNe (eBin oIx (eVar 0) (eC (.int 0))) (eBin oIx (eVar 0) (eC (.int 1)))) (eAnd (eFn 3 f_is_between [] (aCons (eBin oIx (eVar 0) (eC (.int 2))) (aCons (eC (.int 0)) (aCons (eC (.int 1000000000000)) aNil)))) (eAnd (eFn 3 f_is_between [] (aCons (eBin oIx (eVar 0) (eC (.int 3))) (aCons (eC (.int 0)) (aCons (eC (.int 1000000000000)) aNil)))) (eFn 3 f_is_between [] (aCons (eBin oIx (eVar 0) (eC (.int 4))) (aCons (eC (.int 1)) (aCons (eC (.int 100)) aNil))))))))))))
noncomputable def f_makes_a_pot : List D → M D := hide fun ds => frz (run 1 g_makes_a_pot ds)
theorem sc_makes_a_pot : FnScope ["thing"] ["thing"] (defScope s_makes_a_pot) := ⟨rfl, rfl, rfl, by decide +kernel, rfl, by decide +kernel, by decide +kernel⟩
theorem bd_makes_a_pot : ∀ (kV doc pm : Value) (an : Option Addr) (cdv ct : Value) (us : List Value), us.length = (["thing"] : List Str).length → bindArgs (PySem.W.fnOf "makes_a_pot" "makes_a_pot" (defArgs s_makes_a_pot) (defBody s_makes_a_pot) (defScope s_makes_a_pot) .none kV doc pm an cdv ct) ⟨us, []⟩ = pure ((["thing"] : List Str).zip us) :=
  fun _ _ _ _ _ _ us hl => match us, hl with | [_], _ => rfl
theorem ok_makes_a_pot (Xt : Txt K mg ca) : OkF ⟨K, ca⟩ P w mg base 4 "makes_a_pot" ["thing"] f_makes_a_pot :=
  OkF.hide (OkF.frz (ok_of Xt.f_makes_a_pot sc_makes_a_pot fun _ _ _ _ _ _ _ hr =>
    (fss_one (fs_ret (fe_and (fe_isB .tuple (fe_var 0) rfl Xt.n_isinstance rfl Xt.n_tuple boot_tuple) (fe_and (fe_cmp (op_eqD (hu9 hr)) sndD (fe_callB call_len_seq (snd_len rfl) rfl Xt.n_len PySem.boot_len (fa_cons (fe_var 0) fa_nil)) fe_int (nomark _)) (fe_and (fe_callO (ok_is_hand Xt) rfl (hr.mono (by decide)) rfl (fa_cons (fe_ix ix_D (snd_ix rfl) (fe_var 0) fe_int (fun _ _ => rfl)) fa_nil)) (fe_and (fe_callO (ok_is_hand Xt) rfl (hr.mono (by decide)) rfl (fa_cons (fe_ix ix_D (snd_ix rfl) (fe_var 0) fe_int (fun _ _ => rfl)) fa_nil)) (fe_and (fe_cmp (op_neD (hu9 hr)) sndD (fe_ix ix_D (snd_ix rfl) (fe_var 0) fe_int (fun _ _ => rfl)) (fe_ix ix_D (snd_ix rfl) (fe_var 0) fe_int (fun _ _ => rfl)) (nomark _)) (fe_and (fe_callO (ok_is_between Xt) rfl (hr.mono (by decide)) rfl (fa_cons (fe_ix ix_D (snd_ix rfl) (fe_var 0) fe_int (fun _ _ => rfl)) (fa_cons fe_int (fa_cons (fe_globI (u := .int 1000000000000 (Xt.c_MOST_COIN).choose) rfl (Xt.c_MOST_COIN).choose_spec ⟨_, rfl⟩) fa_nil)))) (fe_and (fe_callO (ok_is_between Xt) rfl (hr.mono (by decide)) rfl (fa_cons (fe_ix ix_D (snd_ix rfl) (fe_var 0) fe_int (fun _ _ => rfl)) (fa_cons fe_int (fa_cons (fe_globI (u := .int 1000000000000 (Xt.c_MOST_COIN).choose) rfl (Xt.c_MOST_COIN).choose_spec ⟨_, rfl⟩) fa_nil)))) (fe_one (fe_callO (ok_is_between Xt) rfl (hr.mono (by decide)) rfl (fa_cons (fe_ix ix_D (snd_ix rfl) (fe_var 0) fe_int (fun _ _ => rfl)) (fa_cons fe_int (fa_cons (fe_globI (u := .int 100 (Xt.c_MOST_WAIT).choose) rfl (Xt.c_MOST_WAIT).choose_spec ⟨_, rfl⟩) fa_nil))))))))))))))))

abbrev s_NoPot___init__ : Stmt := mthOf (top 10) 0
theorem sc_NoPot___init__ : FnScope ["self", "pot"] ["self", "pot"] (defScope s_NoPot___init__) := ⟨rfl, rfl, rfl, by decide +kernel, rfl, by decide +kernel, by decide +kernel⟩
theorem bd_NoPot___init__ : ∀ (kV doc pm : Value) (an : Option Addr) (cdv ct : Value) (us : List Value), us.length = (["self", "pot"] : List Str).length → bindArgs (PySem.W.fnOf "__init__" "NoPot.__init__" (defArgs s_NoPot___init__) (defBody s_NoPot___init__) (defScope s_NoPot___init__) .none kV doc pm an cdv ct) ⟨us, []⟩ = pure ((["self", "pot"] : List Str).zip us) :=
  fun _ _ _ _ _ _ us hl => match us, hl with | [_, _], _ => rfl
theorem ok_NoPot___init__ (Xt : Txt K mg ca) : OkI K P w mg base 1 (ca 2) (ca 25) ["self", "pot"] :=
  okI_of Xt.f_NoPot___init__ sc_NoPot___init__ Xt.fc_NoPot fun _ _ _ _ _ _ _ =>
    pss_cons (ps_expr (pe_binit (C := ca 2) (BE := ca 0) (fI := ca 25) (bmB := veB) (mc := .type "type") PySem.F.excBase_ValueError Xt.ii_NoPot rfl Xt.m_BookError Xt.bs_NoPot Xt.br_NoPot Xt.bf_NoPot (by rfl) rfl (Or.inl rfl) rfl (Or.inl rfl) hz_init))
      (pss_one (ps_pot (C := ca 2) (fI := ca 25) (newId := "ValueError.__new__") PySem.F.store_ValueError Xt.ii_NoPot Xt.sa_NoPot Xt.np_NoPot Xt.mo_NoPot rfl (Or.inl rfl) rfl (Or.inl rfl)))

abbrev s_checked_pots : Stmt := top 18
noncomputable def g_checked_pots : Ev → M Fl :=
  (sSeq (sForN (srcE (eVar 0)) (tgT 2 (tgCons (tgN 1) (tgCons (tgN 2) tgNil))) (sIf (bOr (eT (eBin oGt (eVar 1) (eC (.int 2)))) (bNot (eT (eFn 1 f_makes_a_pot [] (aCons (eVar 2) aNil))))) (sRaiseP 2 (eVar 1)) sNil))
  (sRet (eFrz (eCall oList (aCons (eVar 0) aNil)))))
noncomputable def f_checked_pots : List D → M D := hide fun ds => frz (run 3 g_checked_pots ds)
theorem sc_checked_pots : FnScope ["pots", "number", "made"] ["pots"] (defScope s_checked_pots) := ⟨rfl, rfl, rfl, by decide +kernel, rfl, by decide +kernel, by decide +kernel⟩
theorem bd_checked_pots : ∀ (kV doc pm : Value) (an : Option Addr) (cdv ct : Value) (us : List Value), us.length = (["pots"] : List Str).length → bindArgs (PySem.W.fnOf "checked_pots" "checked_pots" (defArgs s_checked_pots) (defBody s_checked_pots) (defScope s_checked_pots) .none kV doc pm an cdv ct) ⟨us, []⟩ = pure ((["pots"] : List Str).zip us) :=
  fun _ _ _ _ _ _ us hl => match us, hl with | [_], _ => rfl
theorem ok_checked_pots (Xt : Txt K mg ca) : OkF ⟨K, ca⟩ P w mg base 5 "checked_pots" ["pots"] f_checked_pots :=
  OkF.hide (OkF.frz (ok_of Xt.f_checked_pots sc_checked_pots fun _ _ _ _ _ _ _ hr =>
    (fss_cons (fs_forN passes_cx rfl (fi_enum rfl Xt.n_enumerate (fe_var 0)) (fg_tup rfl (fgs_cons (fg_name (i := 1) sc_checked_pots.nd rfl (Or.inl rfl)) (fgs_cons (fg_name (i := 2) sc_checked_pots.nd rfl (Or.inl rfl)) fgs_nil))) (fss_one (fs_if (L2.PW.pt (fw_or (ft_cmp op_gt snd_gt (fe_var 1) (fe_globI (u := .int 2 (Xt.c_MOST_POT).choose) rfl (Xt.c_MOST_POT).choose_spec ⟨_, rfl⟩) (nomark _)) (fw_or1 (ft_not (ft_val (fe_callO (ok_makes_a_pot Xt) rfl (hr.mono (by decide)) rfl (fa_cons (fe_var 2) fa_nil))))))) (fss_one (fs_raiseP (k := 1) 2 PySem.F.excBase_ValueError rfl Xt.ii_NoPot Xt.kp_NoPot Xt.m_NoPot (ok_NoPot___init__ Xt) rfl (Xt.hca 2 (by decide)) (by decide) (hr.mono (by decide)) rfl rfl (fe_var 1))) fss_nil)))
    (fss_one (fs_ret (fe_frz (fe_callTy call_list_of (snd_list rfl) rfl Xt.n_list boot_list (fa_cons (fe_var 0) fa_nil))))))))

abbrev s_Claim___init__ : Stmt := mthOf (top 12) 0
noncomputable def g_Claim___init__ : Ev → M Fl :=
  (sPut [3, 4] "whole" (eVar 1) (eVar 0))
noncomputable def f_Claim___init__ : List D → M D := hide (run 2 g_Claim___init__)
theorem sc_Claim___init__ : FnScope ["self", "whole"] ["self", "whole"] (defScope s_Claim___init__) := ⟨rfl, rfl, rfl, by decide +kernel, rfl, by decide +kernel, by decide +kernel⟩
theorem bd_Claim___init__ : ∀ (kV doc pm : Value) (an : Option Addr) (cdv ct : Value) (us : List Value), us.length = (["self", "whole"] : List Str).length → bindArgs (PySem.W.fnOf "__init__" "Claim.__init__" (defArgs s_Claim___init__) (defBody s_Claim___init__) (defScope s_Claim___init__) .none kV doc pm an cdv ct) ⟨us, []⟩ = pure ((["self", "whole"] : List Str).zip us) :=
  fun _ _ _ _ _ _ us hl => match us, hl with | [_, _], _ => rfl
theorem ok_Claim___init__ (Xt : Txt K mg ca) : OkA ⟨K, ca⟩ P w mg base 1 (ca 6) ["self", "whole"] f_Claim___init__ :=
  OkA.hide (okA_of Xt.f_Claim___init__ sc_Claim___init__ fun _ _ _ _ _ _ hr =>
    (fss_one (fs_fld rfl (fld_cons (T := ⟨K, ca⟩) (c := 3) Xt.cl_Claim Xt.na_Claim_whole (fld_cons (T := ⟨K, ca⟩) (c := 4) Xt.cl_Held Xt.na_Held_whole fld_nil)) (fe_var 0) (fe_var 1))))

abbrev s_whole_of : Stmt := top 19
noncomputable def g_whole_of : Ev → M Fl :=
  (sRet (eBin oAdd (eBin oIx (eVar 0) (eC (.int 2))) (eBin oIx (eVar 0) (eC (.int 3)))))
noncomputable def f_whole_of : List D → M D := hide fun ds => frz (run 1 g_whole_of ds)
theorem sc_whole_of : FnScope ["made"] ["made"] (defScope s_whole_of) := ⟨rfl, rfl, rfl, by decide +kernel, rfl, by decide +kernel, by decide +kernel⟩
theorem bd_whole_of : ∀ (kV doc pm : Value) (an : Option Addr) (cdv ct : Value) (us : List Value), us.length = (["made"] : List Str).length → bindArgs (PySem.W.fnOf "whole_of" "whole_of" (defArgs s_whole_of) (defBody s_whole_of) (defScope s_whole_of) .none kV doc pm an cdv ct) ⟨us, []⟩ = pure ((["made"] : List Str).zip us) :=
  fun _ _ _ _ _ _ us hl => match us, hl with | [_], _ => rfl
theorem ok_whole_of (Xt : Txt K mg ca) : OkF ⟨K, ca⟩ P w mg base 1 "whole_of" ["made"] f_whole_of :=
  OkF.hide (OkF.frz (ok_of Xt.f_whole_of sc_whole_of fun _ _ _ _ _ _ _ hr =>
    (fss_one (fs_ret (fe_op (op_addD rfl) sndD (fe_ix ix_D (snd_ix rfl) (fe_var 0) fe_int (fun _ _ => rfl)) (fe_ix ix_D (snd_ix rfl) (fe_var 0) fe_int (fun _ _ => rfl)))))))

abbrev s_Book___init__ : Stmt := mthOf (top 20) 0
noncomputable def g_Book___init__ : Ev → M Fl :=
  (sSeq (sPut [5] "pots" (eFn 1 f_checked_pots [] (aCons (eVar 1) aNil)) (eVar 0))
  (sSeq (sPut [5] "day" (eC (.int 0)) (eVar 0))
  (sSeq (sPut [5] "claims" (eFrz (eLC (srcS (eUn (oFld [5] "pots") (eVar 0))) [] (tgN 0) bTrue (eFrz (eMake 4 2 f_Claim___init__ (aCons (eFn 1 f_whole_of [] (aCons (eVar 0) aNil)) aNil))))) (eVar 0))
  (sPut [5] "shown" (eFrz (eLC (srcS (eUn (oFld [5] "pots") (eVar 0))) [] (tgN 0) bTrue (eC (.dic [] [])))) (eVar 0)))))
noncomputable def f_Book___init__ : List D → M D := hide (run 2 g_Book___init__)
theorem sc_Book___init__ : FnScope ["self", "pots"] ["self", "pots"] (defScope s_Book___init__) := ⟨rfl, rfl, rfl, by decide +kernel, rfl, by decide +kernel, by decide +kernel⟩
theorem bd_Book___init__ : ∀ (kV doc pm : Value) (an : Option Addr) (cdv ct : Value) (us : List Value), us.length = (["self", "pots"] : List Str).length → bindArgs (PySem.W.fnOf "__init__" "Book.__init__" (defArgs s_Book___init__) (defBody s_Book___init__) (defScope s_Book___init__) .none kV doc pm an cdv ct) ⟨us, []⟩ = pure ((["self", "pots"] : List Str).zip us) :=
  fun _ _ _ _ _ _ us hl => match us, hl with | [_, _], _ => rfl
theorem ok_Book___init__ (Xt : Txt K mg ca) : OkA ⟨K, ca⟩ P w mg base 6 (ca 10) ["self", "pots"] f_Book___init__ :=
  OkA.hide (okA_of Xt.f_Book___init__ sc_Book___init__ fun _ _ _ _ _ _ hr =>
    (fss_cons (fs_fld rfl (fld_cons (T := ⟨K, ca⟩) (c := 5) Xt.cl_Book Xt.na_Book_pots fld_nil) (fe_var 0) (fe_callO (ok_checked_pots Xt) rfl (hr.mono (by decide)) rfl (fa_cons (fe_var 1) fa_nil)))
    (fss_cons (fs_fld rfl (fld_cons (T := ⟨K, ca⟩) (c := 5) Xt.cl_Book Xt.na_Book_day fld_nil) (fe_var 0) fe_int)
    (fss_cons (fs_fld rfl (fld_cons (T := ⟨K, ca⟩) (c := 5) Xt.cl_Book Xt.na_Book_claims fld_nil) (fe_var 0) (fe_frz (fe_lc (x := "made") (M' := []) (ix := []) rfl ⟨rfl, rfl, rfl, rfl, rfl, rfl⟩ (fi_seq rfl (fe_fld rfl (fld_cons (T := ⟨K, ca⟩) (c := 5) Xt.cl_Book Xt.na_Book_pots fld_nil) (fe_var 0))) (fun _ _ _ _ _ => fg_name (i := 0) (by show List.Nodup (("made" :: []) : List Str); decide +kernel) rfl (Or.inl rfl)) (fun _ _ _ _ _ => fif_nil) (fun _ _ _ _ _ => (fe_frz (fe_make (c := 4) (ps := ["self", "whole"]) ⟨_, Xt.m_Held, Xt.mk_Held, ok_Claim___init__ Xt⟩ rfl (hr.mono (by decide)) rfl (fa_cons (fe_callO (ok_whole_of Xt) rfl (hr.mono (by decide)) rfl (fa_cons (fe_var 0) fa_nil)) fa_nil)))))))
    (fss_one (fs_fld rfl (fld_cons (T := ⟨K, ca⟩) (c := 5) Xt.cl_Book Xt.na_Book_shown fld_nil) (fe_var 0) (fe_frz (fe_lc (x := "made") (M' := []) (ix := []) rfl ⟨rfl, rfl, rfl, rfl, rfl, rfl⟩ (fi_seq rfl (fe_fld rfl (fld_cons (T := ⟨K, ca⟩) (c := 5) Xt.cl_Book Xt.na_Book_pots fld_nil) (fe_var 0))) (fun _ _ _ _ _ => fg_name (i := 0) (by show List.Nodup (("made" :: []) : List Str); decide +kernel) rfl (Or.inl rfl)) (fun _ _ _ _ _ => fif_nil) (fun _ _ _ _ _ => fe_dnil)))))))))

abbrev s_Book_made_of : Stmt := mthOf (top 20) 14
noncomputable def g_Book_made_of : Ev → M Fl :=
  (sRet (eCall oList (aCons (eUn (oFld [5] "pots") (eVar 0)) aNil)))
noncomputable def f_Book_made_of : List D → M D := hide (run 1 g_Book_made_of)
theorem sc_Book_made_of : FnScope ["self"] ["self"] (defScope s_Book_made_of) := ⟨rfl, rfl, rfl, by decide +kernel, rfl, by decide +kernel, by decide +kernel⟩
theorem bd_Book_made_of : ∀ (kV doc pm : Value) (an : Option Addr) (cdv ct : Value) (us : List Value), us.length = (["self"] : List Str).length → bindArgs (PySem.W.fnOf "made_of" "Book.made_of" (defArgs s_Book_made_of) (defBody s_Book_made_of) (defScope s_Book_made_of) .none kV doc pm an cdv ct) ⟨us, []⟩ = pure ((["self"] : List Str).zip us) :=
  fun _ _ _ _ _ _ us hl => match us, hl with | [_], _ => rfl
theorem ok_Book_made_of (Xt : Txt K mg ca) : OkA ⟨K, ca⟩ P w mg base 1 (ca 24) ["self"] f_Book_made_of :=
  OkA.hide (okA_of Xt.f_Book_made_of sc_Book_made_of fun _ _ _ _ _ _ hr =>
    (fss_one (fs_ret (fe_callTy call_list_of (snd_list rfl) rfl Xt.n_list boot_list (fa_cons (fe_fld rfl (fld_cons (T := ⟨K, ca⟩) (c := 5) Xt.cl_Book Xt.na_Book_pots fld_nil) (fe_var 0)) fa_nil)))))

abbrev s_Book_today : Stmt := mthOf (top 20) 2
noncomputable def g_Book_today : Ev → M Fl :=
  (sRet (eUn (oFld [5] "day") (eVar 0)))
noncomputable def f_Book_today : List D → M D := hide fun ds => frz (run 1 g_Book_today ds)
theorem sc_Book_today : FnScope ["self"] ["self"] (defScope s_Book_today) := ⟨rfl, rfl, rfl, by decide +kernel, rfl, by decide +kernel, by decide +kernel⟩
theorem bd_Book_today : ∀ (kV doc pm : Value) (an : Option Addr) (cdv ct : Value) (us : List Value), us.length = (["self"] : List Str).length → bindArgs (PySem.W.fnOf "today" "Book.today" (defArgs s_Book_today) (defBody s_Book_today) (defScope s_Book_today) .none kV doc pm an cdv ct) ⟨us, []⟩ = pure ((["self"] : List Str).zip us) :=
  fun _ _ _ _ _ _ us hl => match us, hl with | [_], _ => rfl
theorem ok_Book_today (Xt : Txt K mg ca) : OkA ⟨K, ca⟩ P w mg base 1 (ca 12) ["self"] f_Book_today :=
  OkA.hide (OkA.frz (okA_of Xt.f_Book_today sc_Book_today fun _ _ _ _ _ _ hr =>
    (fss_one (fs_ret (fe_fld rfl (fld_cons (T := ⟨K, ca⟩) (c := 5) Xt.cl_Book Xt.na_Book_day fld_nil) (fe_var 0))))))

abbrev s_Book_all_shown : Stmt := mthOf (top 20) 13
noncomputable def g_Book_all_shown : Ev → M Fl :=
  (sSeq (sSet 1 eDnew)
  (sSeq (sFor (srcS (eUn (oFld [5] "shown") (eVar 0))) (tgN 2) (sExp (eMethD oUpd (eVar 1) (aCons (eVar 2) aNil))))
  (sRet (eFrz (eCall oSrtA (aCons (eVar 1) aNil))))))
noncomputable def f_Book_all_shown : List D → M D := hide fun ds => frz (run 3 g_Book_all_shown ds)
theorem sc_Book_all_shown : FnScope ["self", "words", "shown"] ["self"] (defScope s_Book_all_shown) := ⟨rfl, rfl, rfl, by decide +kernel, rfl, by decide +kernel, by decide +kernel⟩
theorem bd_Book_all_shown : ∀ (kV doc pm : Value) (an : Option Addr) (cdv ct : Value) (us : List Value), us.length = (["self"] : List Str).length → bindArgs (PySem.W.fnOf "all_shown" "Book.all_shown" (defArgs s_Book_all_shown) (defBody s_Book_all_shown) (defScope s_Book_all_shown) .none kV doc pm an cdv ct) ⟨us, []⟩ = pure ((["self"] : List Str).zip us) :=
  fun _ _ _ _ _ _ us hl => match us, hl with | [_], _ => rfl
theorem ok_Book_all_shown (Xt : Txt K mg ca) : OkA ⟨K, ca⟩ P w mg base 1 (ca 23) ["self"] f_Book_all_shown :=
  OkA.hide (OkA.frz (okA_of Xt.f_Book_all_shown sc_Book_all_shown fun _ _ _ _ _ _ hr =>
    (fss_cons (fs_set (i := 1) sc_Book_all_shown.nd rfl (Or.inl rfl) fe_dnew)
    (fss_cons (fs_for passes_cx rfl (fi_seq rfl (fe_fld rfl (fld_cons (T := ⟨K, ca⟩) (c := 5) Xt.cl_Book Xt.na_Book_shown fld_nil) (fe_var 0))) (fg_name (i := 2) sc_Book_all_shown.nd rfl (Or.inl rfl)) (fss_one (fs_expr (fe_methD PySem.F.plainAttrs_dict PySem.F.slot_dict_update PySem.F.type_dict_update mt_upd snd_upd (fe_var 1) (fa_cons (fe_var 2) fa_nil)))))
    (fss_one (fs_ret (fe_frz (fe_callB (call_srtA rfl) (snd_srtA rfl) rfl Xt.n_sorted L4.boot_sorted (fa_cons (fe_var 1) fa_nil)))))))))

abbrev s_Book_check_pot : Stmt := mthOf (top 20) 1
noncomputable def g_Book_check_pot : Ev → M Fl :=
  (sIf (bNot (eT (eFn 3 f_is_between [] (aCons (eVar 1) (aCons (eC (.int 0)) (aCons (eBin oSub (eCall oLen (aCons (eUn (oFld [5] "pots") (eVar 0)) aNil)) (eC (.int 1))) aNil)))))) (sRaise 1 (aCons (eC (.str "the book hasn't this pot")) aNil)) sNil)
noncomputable def f_Book_check_pot : List D → M D := hide fun ds => frz (run 2 g_Book_check_pot ds)
theorem sc_Book_check_pot : FnScope ["self", "pot"] ["self", "pot"] (defScope s_Book_check_pot) := ⟨rfl, rfl, rfl, by decide +kernel, rfl, by decide +kernel, by decide +kernel⟩
theorem bd_Book_check_pot : ∀ (kV doc pm : Value) (an : Option Addr) (cdv ct : Value) (us : List Value), us.length = (["self", "pot"] : List Str).length → bindArgs (PySem.W.fnOf "check_pot" "Book.check_pot" (defArgs s_Book_check_pot) (defBody s_Book_check_pot) (defScope s_Book_check_pot) .none kV doc pm an cdv ct) ⟨us, []⟩ = pure ((["self", "pot"] : List Str).zip us) :=
  fun _ _ _ _ _ _ us hl => match us, hl with | [_, _], _ => rfl
theorem ok_Book_check_pot (Xt : Txt K mg ca) : OkA ⟨K, ca⟩ P w mg base 3 (ca 11) ["self", "pot"] f_Book_check_pot :=
  OkA.hide (OkA.frz (okA_of Xt.f_Book_check_pot sc_Book_check_pot fun _ _ _ _ _ _ hr =>
    (fss_one (fs_if (ft_not (ft_val (fe_callO (ok_is_between Xt) rfl (hr.mono (by decide)) rfl (fa_cons (fe_var 1) (fa_cons fe_int (fa_cons (fe_op op_sub snd_sub (fe_callB call_len_seq (snd_len rfl) rfl Xt.n_len PySem.boot_len (fa_cons (fe_fld rfl (fld_cons (T := ⟨K, ca⟩) (c := 5) Xt.cl_Book Xt.na_Book_pots fld_nil) (fe_var 0)) fa_nil)) fe_int) fa_nil)))))) (fss_one (fs_raise 1 PySem.F.excBase_ValueError rfl Xt.x_NoDeed Xt.m_NoDeed rfl rfl (fa_cons fe_str fa_nil))) fss_nil))))

abbrev s_Held_told : Stmt := mthOf (top 13) 0
noncomputable def g_Held_told : Ev → M Fl :=
  (sRet (eTup (aCons (eC (.str "held")) aNil)))
noncomputable def f_Held_told : List D → M D := hide fun ds => frz (run 1 g_Held_told ds)
theorem sc_Held_told : FnScope ["self"] ["self"] (defScope s_Held_told) := ⟨rfl, rfl, rfl, by decide +kernel, rfl, by decide +kernel, by decide +kernel⟩
theorem bd_Held_told : ∀ (kV doc pm : Value) (an : Option Addr) (cdv ct : Value) (us : List Value), us.length = (["self"] : List Str).length → bindArgs (PySem.W.fnOf "told" "Held.told" (defArgs s_Held_told) (defBody s_Held_told) (defScope s_Held_told) .none kV doc pm an cdv ct) ⟨us, []⟩ = pure ((["self"] : List Str).zip us) :=
  fun _ _ _ _ _ _ us hl => match us, hl with | [_], _ => rfl
theorem ok_Held_told (Xt : Txt K mg ca) : OkA ⟨K, ca⟩ P w mg base 1 (ca 7) ["self"] f_Held_told :=
  OkA.hide (OkA.frz (okA_of Xt.f_Held_told sc_Held_told fun _ _ _ _ _ _ hr =>
    (fss_one (fs_ret (fe_tup (fa_cons fe_str fa_nil))))))

abbrev s_Book_told : Stmt := mthOf (top 20) 8
noncomputable def g_Book_told : Ev → M Fl :=
  (sSeq (sExp (eMth [(5, f_Book_check_pot)] 2 "check_pot" (eVar 0) (aCons (eVar 1) aNil)))
  (sRet (eMth [(4, f_Held_told)] 1 "told" (eBin oIx (eUn (oFld [5] "claims") (eVar 0)) (eVar 1)) aNil)))
noncomputable def f_Book_told : List D → M D := hide fun ds => frz (run 2 g_Book_told ds)
theorem sc_Book_told : FnScope ["self", "pot"] ["self", "pot"] (defScope s_Book_told) := ⟨rfl, rfl, rfl, by decide +kernel, rfl, by decide +kernel, by decide +kernel⟩
theorem bd_Book_told : ∀ (kV doc pm : Value) (an : Option Addr) (cdv ct : Value) (us : List Value), us.length = (["self", "pot"] : List Str).length → bindArgs (PySem.W.fnOf "told" "Book.told" (defArgs s_Book_told) (defBody s_Book_told) (defScope s_Book_told) .none kV doc pm an cdv ct) ⟨us, []⟩ = pure ((["self", "pot"] : List Str).zip us) :=
  fun _ _ _ _ _ _ us hl => match us, hl with | [_, _], _ => rfl
theorem ok_Book_told (Xt : Txt K mg ca) : OkA ⟨K, ca⟩ P w mg base 4 (ca 18) ["self", "pot"] f_Book_told :=
  OkA.hide (OkA.frz (okA_of Xt.f_Book_told sc_Book_told fun _ _ _ _ _ _ hr =>
    (fss_cons (fs_expr (fe_mth (k := 3) (ps := ["self", "pot"]) rfl (fe_var 0) (mt_cons (T := ⟨K, ca⟩) (c := 5) Xt.cl_Book Xt.me_Book_check_pot (ok_Book_check_pot Xt) (by decide) mt_nil) (hr.mono (by decide)) (fa_cons (fe_var 1) fa_nil)))
    (fss_one (fs_ret (fe_mth0 (k := 1) (ps := ["self"]) rfl (fe_ix ix_D (snd_ix rfl) (fe_fld rfl (fld_cons (T := ⟨K, ca⟩) (c := 5) Xt.cl_Book Xt.na_Book_claims fld_nil) (fe_var 0)) (fe_var 1) (fun _ _ => rfl)) (mt_cons (T := ⟨K, ca⟩) (c := 4) Xt.cl_Held Xt.me_Held_told (ok_Held_told Xt) (by decide) mt_nil) (hr.mono (by decide))))))))

abbrev s_Held_comes : Stmt := mthOf (top 13) 1
noncomputable def g_Held_comes : Ev → M Fl :=
  (sRet (eTup (aCons (eC (.int 0)) (aCons (eC (.int 0)) (aCons (eUn (oFld [3, 4] "whole") (eVar 0)) aNil)))))
noncomputable def f_Held_comes : List D → M D := hide fun ds => frz (run 3 g_Held_comes ds)
theorem sc_Held_comes : FnScope ["self", "day", "shown"] ["self", "day", "shown"] (defScope s_Held_comes) := ⟨rfl, rfl, rfl, by decide +kernel, rfl, by decide +kernel, by decide +kernel⟩
theorem bd_Held_comes : ∀ (kV doc pm : Value) (an : Option Addr) (cdv ct : Value) (us : List Value), us.length = (["self", "day", "shown"] : List Str).length → bindArgs (PySem.W.fnOf "comes" "Held.comes" (defArgs s_Held_comes) (defBody s_Held_comes) (defScope s_Held_comes) .none kV doc pm an cdv ct) ⟨us, []⟩ = pure ((["self", "day", "shown"] : List Str).zip us) :=
  fun _ _ _ _ _ _ us hl => match us, hl with | [_, _, _], _ => rfl
theorem ok_Held_comes (Xt : Txt K mg ca) : OkA ⟨K, ca⟩ P w mg base 1 (ca 8) ["self", "day", "shown"] f_Held_comes :=
  OkA.hide (OkA.frz (okA_of Xt.f_Held_comes sc_Held_comes fun _ _ _ _ _ _ hr =>
    (fss_one (fs_ret (fe_tup (fa_cons fe_int (fa_cons fe_int (fa_cons (fe_fld rfl (fld_cons (T := ⟨K, ca⟩) (c := 3) Xt.cl_Claim Xt.na_Claim_whole (fld_cons (T := ⟨K, ca⟩) (c := 4) Xt.cl_Held Xt.na_Held_whole fld_nil)) (fe_var 0)) fa_nil))))))))

abbrev s_Book_due_of : Stmt := mthOf (top 20) 10
noncomputable def g_Book_due_of : Ev → M Fl :=
  (sSeq (sExp (eMth [(5, f_Book_check_pot)] 2 "check_pot" (eVar 0) (aCons (eVar 1) aNil)))
  (sRet (eMth [(4, f_Held_comes)] 3 "comes" (eBin oIx (eUn (oFld [5] "claims") (eVar 0)) (eVar 1)) (aCons (eUn (oFld [5] "day") (eVar 0)) (aCons (eBin oIx (eUn (oFld [5] "shown") (eVar 0)) (eVar 1)) aNil)))))
noncomputable def f_Book_due_of : List D → M D := hide fun ds => frz (run 2 g_Book_due_of ds)
theorem sc_Book_due_of : FnScope ["self", "pot"] ["self", "pot"] (defScope s_Book_due_of) := ⟨rfl, rfl, rfl, by decide +kernel, rfl, by decide +kernel, by decide +kernel⟩
theorem bd_Book_due_of : ∀ (kV doc pm : Value) (an : Option Addr) (cdv ct : Value) (us : List Value), us.length = (["self", "pot"] : List Str).length → bindArgs (PySem.W.fnOf "due_of" "Book.due_of" (defArgs s_Book_due_of) (defBody s_Book_due_of) (defScope s_Book_due_of) .none kV doc pm an cdv ct) ⟨us, []⟩ = pure ((["self", "pot"] : List Str).zip us) :=
  fun _ _ _ _ _ _ us hl => match us, hl with | [_, _], _ => rfl
theorem ok_Book_due_of (Xt : Txt K mg ca) : OkA ⟨K, ca⟩ P w mg base 4 (ca 20) ["self", "pot"] f_Book_due_of :=
  OkA.hide (OkA.frz (okA_of Xt.f_Book_due_of sc_Book_due_of fun _ _ _ _ _ _ hr =>
    (fss_cons (fs_expr (fe_mth (k := 3) (ps := ["self", "pot"]) rfl (fe_var 0) (mt_cons (T := ⟨K, ca⟩) (c := 5) Xt.cl_Book Xt.me_Book_check_pot (ok_Book_check_pot Xt) (by decide) mt_nil) (hr.mono (by decide)) (fa_cons (fe_var 1) fa_nil)))
    (fss_one (fs_ret (fe_mth (k := 1) (ps := ["self", "day", "shown"]) rfl (fe_ix ix_D (snd_ix rfl) (fe_fld rfl (fld_cons (T := ⟨K, ca⟩) (c := 5) Xt.cl_Book Xt.na_Book_claims fld_nil) (fe_var 0)) (fe_var 1) (fun _ _ => rfl)) (mt_cons (T := ⟨K, ca⟩) (c := 4) Xt.cl_Held Xt.me_Held_comes (ok_Held_comes Xt) (by decide) mt_nil) (hr.mono (by decide)) (fa_cons (fe_fld rfl (fld_cons (T := ⟨K, ca⟩) (c := 5) Xt.cl_Book Xt.na_Book_day fld_nil) (fe_var 0)) (fa_cons (fe_ix ix_D (snd_ix rfl) (fe_fld rfl (fld_cons (T := ⟨K, ca⟩) (c := 5) Xt.cl_Book Xt.na_Book_shown fld_nil) (fe_var 0)) (fe_var 1) (fun _ _ => rfl)) fa_nil))))))))

abbrev s_Book_shown_for : Stmt := mthOf (top 20) 9
noncomputable def g_Book_shown_for : Ev → M Fl :=
  (sSeq (sExp (eMth [(5, f_Book_check_pot)] 2 "check_pot" (eVar 0) (aCons (eVar 1) aNil)))
  (sRet (eCall oDcp (aCons (eBin oIx (eUn (oFld [5] "shown") (eVar 0)) (eVar 1)) aNil))))
noncomputable def f_Book_shown_for : List D → M D := hide fun ds => frz (run 2 g_Book_shown_for ds)
theorem sc_Book_shown_for : FnScope ["self", "pot"] ["self", "pot"] (defScope s_Book_shown_for) := ⟨rfl, rfl, rfl, by decide +kernel, rfl, by decide +kernel, by decide +kernel⟩
theorem bd_Book_shown_for : ∀ (kV doc pm : Value) (an : Option Addr) (cdv ct : Value) (us : List Value), us.length = (["self", "pot"] : List Str).length → bindArgs (PySem.W.fnOf "shown_for" "Book.shown_for" (defArgs s_Book_shown_for) (defBody s_Book_shown_for) (defScope s_Book_shown_for) .none kV doc pm an cdv ct) ⟨us, []⟩ = pure ((["self", "pot"] : List Str).zip us) :=
  fun _ _ _ _ _ _ us hl => match us, hl with | [_, _], _ => rfl
theorem ok_Book_shown_for (Xt : Txt K mg ca) : OkA ⟨K, ca⟩ P w mg base 4 (ca 19) ["self", "pot"] f_Book_shown_for :=
  OkA.hide (OkA.frz (okA_of Xt.f_Book_shown_for sc_Book_shown_for fun _ _ _ _ _ _ hr =>
    (fss_cons (fs_expr (fe_mth (k := 3) (ps := ["self", "pot"]) rfl (fe_var 0) (mt_cons (T := ⟨K, ca⟩) (c := 5) Xt.cl_Book Xt.me_Book_check_pot (ok_Book_check_pot Xt) (by decide) mt_nil) (hr.mono (by decide)) (fa_cons (fe_var 1) fa_nil)))
    (fss_one (fs_ret (fe_callTy call_dcp snd_dcp rfl Xt.n_dict boot_dict (fa_cons (fe_ix ix_D (snd_ix rfl) (fe_fld rfl (fld_cons (T := ⟨K, ca⟩) (c := 5) Xt.cl_Book Xt.na_Book_shown fld_nil) (fe_var 0)) (fe_var 1) (fun _ _ => rfl)) fa_nil)))))))

abbrev s_Book_coin_of : Stmt := mthOf (top 20) 11
noncomputable def g_Book_coin_of : Ev → M Fl :=
  (sSeq (sIf (bNot (eT (eFn 1 f_is_hand [] (aCons (eVar 1) aNil)))) (sRaise 1 (aCons (eC (.str "there is no such hand")) aNil)) sNil)
  (sSeq (sSet 2 (eC (.int 0)))
  (sSeq (sForN (srcE (eUn (oFld [5] "pots") (eVar 0))) (tgT 2 (tgCons (tgN 3) (tgCons (tgN 4) tgNil))) (sFor (srcS (eTup (aCons (eC (.int 0)) (aCons (eC (.int 1)) aNil)))) (tgN 5) (sIf (eT (eBin oEq (eBin oIx (eVar 4) (eVar 5)) (eVar 1))) (sAug (fun a b => a + b) 2 (eBin oIx (eMth [(5, f_Book_due_of)] 2 "due_of" (eVar 0) (aCons (eVar 3) aNil)) (eVar 5))) sNil)))
  (sRet (eVar 2)))))
noncomputable def f_Book_coin_of : List D → M D := hide fun ds => frz (run 6 g_Book_coin_of ds)
theorem sc_Book_coin_of : FnScope ["self", "hand", "coin", "pot", "made", "side"] ["self", "hand"] (defScope s_Book_coin_of) := ⟨rfl, rfl, rfl, by decide +kernel, rfl, by decide +kernel, by decide +kernel⟩
theorem bd_Book_coin_of : ∀ (kV doc pm : Value) (an : Option Addr) (cdv ct : Value) (us : List Value), us.length = (["self", "hand"] : List Str).length → bindArgs (PySem.W.fnOf "coin_of" "Book.coin_of" (defArgs s_Book_coin_of) (defBody s_Book_coin_of) (defScope s_Book_coin_of) .none kV doc pm an cdv ct) ⟨us, []⟩ = pure ((["self", "hand"] : List Str).zip us) :=
  fun _ _ _ _ _ _ us hl => match us, hl with | [_, _], _ => rfl
theorem ok_Book_coin_of (Xt : Txt K mg ca) : OkA ⟨K, ca⟩ P w mg base 5 (ca 21) ["self", "hand"] f_Book_coin_of :=
  OkA.hide (OkA.frz (okA_of Xt.f_Book_coin_of sc_Book_coin_of fun _ _ _ _ _ _ hr =>
    (fss_cons (fs_if (ft_not (ft_val (fe_callO (ok_is_hand Xt) rfl (hr.mono (by decide)) rfl (fa_cons (fe_var 1) fa_nil)))) (fss_one (fs_raise 1 PySem.F.excBase_ValueError rfl Xt.x_NoDeed Xt.m_NoDeed rfl rfl (fa_cons fe_str fa_nil))) fss_nil)
    (fss_cons (fs_set (i := 2) sc_Book_coin_of.nd rfl (Or.inl rfl) fe_int)
    (fss_cons (fs_forN passes_cx rfl (fi_enum rfl Xt.n_enumerate (fe_fld rfl (fld_cons (T := ⟨K, ca⟩) (c := 5) Xt.cl_Book Xt.na_Book_pots fld_nil) (fe_var 0))) (fg_tup rfl (fgs_cons (fg_name (i := 3) sc_Book_coin_of.nd rfl (Or.inl rfl)) (fgs_cons (fg_name (i := 4) sc_Book_coin_of.nd rfl (Or.inl rfl)) fgs_nil))) (fss_one (fs_for passes_cx rfl (fi_seq rfl (fe_tup (fa_cons fe_int (fa_cons fe_int fa_nil)))) (fg_name (i := 5) sc_Book_coin_of.nd rfl (Or.inl rfl)) (fss_one (fs_if (ft_cmp (op_eqD (hu9 hr)) sndD (fe_ix ix_D (snd_ix rfl) (fe_var 4) (fe_var 5) (fun _ _ => rfl)) (fe_var 1) (nomark _)) (fss_one (fs_aug (i := 2) ip_add sc_Book_coin_of.nd rfl (Or.inl rfl) (fe_ix ix_D (snd_ix rfl) (fe_mth (k := 4) (ps := ["self", "pot"]) rfl (fe_var 0) (mt_cons (T := ⟨K, ca⟩) (c := 5) Xt.cl_Book Xt.me_Book_due_of (ok_Book_due_of Xt) (by decide) mt_nil) (hr.mono (by decide)) (fa_cons (fe_var 3) fa_nil)) (fe_var 5) (fun _ _ => rfl)))) fss_nil)))))
    (fss_one (fs_ret (fe_var 2))))))))

abbrev s_Book_is_over : Stmt := mthOf (top 20) 12
noncomputable def g_Book_is_over : Ev → M Fl :=
  (sRet (eCall oAll (aCons (eFrz (eLC (srcR (eCall oLen (aCons (eUn (oFld [5] "pots") (eVar 0)) aNil))) [0] (tgN 0) bTrue (eBin oEq (eBin oIx (eMth [(5, f_Book_due_of)] 2 "due_of" (eVar 1) (aCons (eVar 0) aNil)) (eC (.int 2))) (eC (.int 0))))) aNil)))
noncomputable def f_Book_is_over : List D → M D := hide fun ds => frz (run 1 g_Book_is_over ds)
theorem sc_Book_is_over : FnScope ["self"] ["self"] (defScope s_Book_is_over) := ⟨rfl, rfl, rfl, by decide +kernel, rfl, by decide +kernel, by decide +kernel⟩
theorem bd_Book_is_over : ∀ (kV doc pm : Value) (an : Option Addr) (cdv ct : Value) (us : List Value), us.length = (["self"] : List Str).length → bindArgs (PySem.W.fnOf "is_over" "Book.is_over" (defArgs s_Book_is_over) (defBody s_Book_is_over) (defScope s_Book_is_over) .none kV doc pm an cdv ct) ⟨us, []⟩ = pure ((["self"] : List Str).zip us) :=
  fun _ _ _ _ _ _ us hl => match us, hl with | [_], _ => rfl
theorem ok_Book_is_over (Xt : Txt K mg ca) : OkA ⟨K, ca⟩ P w mg base 5 (ca 22) ["self"] f_Book_is_over :=
  OkA.hide (OkA.frz (okA_of Xt.f_Book_is_over sc_Book_is_over fun _ _ _ _ _ _ hr =>
    (fss_one (fs_ret (fe_callB (call_all rfl) (snd_all rfl) rfl Xt.n_all boot_all (fa_cons (fe_frz (fe_lc (x := "pot") (M' := ["self"]) (ix := [0]) rfl ⟨rfl, rfl, rfl, rfl, rfl, rfl⟩ (fi_range rfl Xt.n_range (fe_callB call_len_seq (snd_len rfl) rfl Xt.n_len PySem.boot_len (fa_cons (fe_fld rfl (fld_cons (T := ⟨K, ca⟩) (c := 5) Xt.cl_Book Xt.na_Book_pots fld_nil) (fe_var 0)) fa_nil))) (fun _ _ _ _ _ => fg_name (i := 0) (by show List.Nodup (("pot" :: ["self"]) : List Str); decide +kernel) rfl (Or.inl rfl)) (fun _ _ _ _ _ => fif_nil) (fun _ _ _ _ _ => (fe_cmp (op_eqD (hu9 hr)) sndD (fe_ix ix_D (snd_ix rfl) (fe_mth (k := 4) (ps := ["self", "pot"]) rfl (fe_var 1) (mt_cons (T := ⟨K, ca⟩) (c := 5) Xt.cl_Book Xt.me_Book_due_of (ok_Book_due_of Xt) (by decide) mt_nil) (hr.mono (by decide)) (fa_cons (fe_var 0) fa_nil)) fe_int (fun _ _ => rfl)) fe_int (nomark _))))) fa_nil))))))

abbrev s__law_begun : Stmt := top 29
noncomputable def g__law_begun : Ev → M Fl :=
  (sSeq (sIf (bOr (eT (eBin oNe (eMth [(5, f_Book_made_of)] 1 "made_of" (eVar 0) aNil) (eVar 1))) (bOr (bNot (eT (eUn (oIsB .list) (eMth [(5, f_Book_made_of)] 1 "made_of" (eVar 0) aNil)))) (bOr (eT (eBin oNe (eMth [(5, f_Book_today)] 1 "today" (eVar 0) aNil) (eC (.int 0)))) (eT (eBin oNe (eMth [(5, f_Book_all_shown)] 1 "all_shown" (eVar 0) aNil) (eLv aNil)))))) (sRet (eC (.bl false))) sNil)
  (sSeq (sFor (srcR (eCall oLen (aCons (eVar 1) aNil))) (tgN 2) (sIf (bOr (eT (eBin oNe (eMth [(5, f_Book_told)] 2 "told" (eVar 0) (aCons (eVar 2) aNil)) (eTup (aCons (eC (.str "held")) aNil)))) (bOr (eT (eBin oNe (eMth [(5, f_Book_due_of)] 2 "due_of" (eVar 0) (aCons (eVar 2) aNil)) (eTup (aCons (eC (.int 0)) (aCons (eC (.int 0)) (aCons (eBin oAdd (eBin oIx (eBin oIx (eVar 1) (eVar 2)) (eC (.int 2))) (eBin oIx (eBin oIx (eVar 1) (eVar 2)) (eC (.int 3)))) aNil)))))) (eT (eBin oNeK (eMth [(5, f_Book_shown_for)] 2 "shown_for" (eVar 0) (aCons (eVar 2) aNil)) (eC (.dic [] [])))))) (sRet (eC (.bl false))) sNil))
  (sSeq (sFor (srcR (eC (.int 4))) (tgN 3) (sIf (eT (eBin oNe (eMth [(5, f_Book_coin_of)] 2 "coin_of" (eVar 0) (aCons (eVar 3) aNil)) (eC (.int 0)))) (sRet (eC (.bl false))) sNil))
  (sRet (eBin oEq (eMth [(5, f_Book_is_over)] 1 "is_over" (eVar 0) aNil) (eBin oEq (eCall oSum (aCons (eFrz (eLC (srcS (eVar 1)) [] (tgN 0) bTrue (eBin oAdd (eBin oIx (eVar 0) (eC (.int 2))) (eBin oIx (eVar 0) (eC (.int 3)))))) aNil)) (eC (.int 0))))))))
noncomputable def f__law_begun : List D → M D := hide fun ds => frz (run 4 g__law_begun ds)
theorem sc__law_begun : FnScope ["_law_book", "_law_pots", "_law_k", "_law_hand"] ["_law_book", "_law_pots"] (defScope s__law_begun) := ⟨rfl, rfl, rfl, by decide +kernel, rfl, by decide +kernel, by decide +kernel⟩
theorem bd__law_begun : ∀ (kV doc pm : Value) (an : Option Addr) (cdv ct : Value) (us : List Value), us.length = (["_law_book", "_law_pots"] : List Str).length → bindArgs (PySem.W.fnOf "_law_begun" "_law_begun" (defArgs s__law_begun) (defBody s__law_begun) (defScope s__law_begun) .none kV doc pm an cdv ct) ⟨us, []⟩ = pure ((["_law_book", "_law_pots"] : List Str).zip us) :=
  fun _ _ _ _ _ _ us hl => match us, hl with | [_, _], _ => rfl
theorem ok__law_begun (Xt : Txt K mg ca) : OkF ⟨K, ca⟩ P w mg base 6 "_law_begun" ["_law_book", "_law_pots"] f__law_begun :=
  OkF.hide (OkF.frz (ok_of Xt.f__law_begun sc__law_begun fun _ _ _ _ _ _ _ hr =>
    (fss_cons (fs_if (L2.PW.pt (fw_or (ft_cmp (op_neD (hu9 hr)) sndD (fe_mth0 (k := 1) (ps := ["self"]) rfl (fe_var 0) (mt_cons (T := ⟨K, ca⟩) (c := 5) Xt.cl_Book Xt.me_Book_made_of (ok_Book_made_of Xt) (by decide) mt_nil) (hr.mono (by decide))) (fe_var 1) (nomark _)) (fw_or (ft_not (ft_val (fe_isB .list (fe_mth0 (k := 1) (ps := ["self"]) rfl (fe_var 0) (mt_cons (T := ⟨K, ca⟩) (c := 5) Xt.cl_Book Xt.me_Book_made_of (ok_Book_made_of Xt) (by decide) mt_nil) (hr.mono (by decide))) rfl Xt.n_isinstance rfl Xt.n_list boot_list))) (fw_or (ft_cmp (op_neD (hu9 hr)) sndD (fe_mth0 (k := 1) (ps := ["self"]) rfl (fe_var 0) (mt_cons (T := ⟨K, ca⟩) (c := 5) Xt.cl_Book Xt.me_Book_today (ok_Book_today Xt) (by decide) mt_nil) (hr.mono (by decide))) fe_int (nomark _)) (fw_or1 (ft_cmp (op_neD (hu9 hr)) sndD (fe_mth0 (k := 1) (ps := ["self"]) rfl (fe_var 0) (mt_cons (T := ⟨K, ca⟩) (c := 5) Xt.cl_Book Xt.me_Book_all_shown (ok_Book_all_shown Xt) (by decide) mt_nil) (hr.mono (by decide))) (fe_lv fa_nil) (nomark _))))))) (fss_one (fs_ret fe_bl)) fss_nil)
    (fss_cons (fs_for passes_cx rfl (fi_range rfl Xt.n_range (fe_callB call_len_seq (snd_len rfl) rfl Xt.n_len PySem.boot_len (fa_cons (fe_var 1) fa_nil))) (fg_name (i := 2) sc__law_begun.nd rfl (Or.inl rfl)) (fss_one (fs_if (L2.PW.pt (fw_or (ft_cmp (op_neD (hu9 hr)) sndD (fe_mth (k := 4) (ps := ["self", "pot"]) rfl (fe_var 0) (mt_cons (T := ⟨K, ca⟩) (c := 5) Xt.cl_Book Xt.me_Book_told (ok_Book_told Xt) (by decide) mt_nil) (hr.mono (by decide)) (fa_cons (fe_var 2) fa_nil)) (fe_tup (fa_cons fe_str fa_nil)) (nomark _)) (fw_or (ft_cmp (op_neD (hu9 hr)) sndD (fe_mth (k := 4) (ps := ["self", "pot"]) rfl (fe_var 0) (mt_cons (T := ⟨K, ca⟩) (c := 5) Xt.cl_Book Xt.me_Book_due_of (ok_Book_due_of Xt) (by decide) mt_nil) (hr.mono (by decide)) (fa_cons (fe_var 2) fa_nil)) (fe_tup (fa_cons fe_int (fa_cons fe_int (fa_cons (fe_op (op_addD rfl) sndD (fe_ix ix_D (snd_ix rfl) (fe_ix ix_D (snd_ix rfl) (fe_var 1) (fe_var 2) (fun _ _ => rfl)) fe_int (fun _ _ => rfl)) (fe_ix ix_D (snd_ix rfl) (fe_ix ix_D (snd_ix rfl) (fe_var 1) (fe_var 2) (fun _ _ => rfl)) fe_int (fun _ _ => rfl))) fa_nil)))) (nomark _)) (fw_or1 (ft_cmp (op_neK (hu9 hr)) snd_neK (fe_mth (k := 4) (ps := ["self", "pot"]) rfl (fe_var 0) (mt_cons (T := ⟨K, ca⟩) (c := 5) Xt.cl_Book Xt.me_Book_shown_for (ok_Book_shown_for Xt) (by decide) mt_nil) (hr.mono (by decide)) (fa_cons (fe_var 2) fa_nil)) fe_dnil (nomark _)))))) (fss_one (fs_ret fe_bl)) fss_nil)))
    (fss_cons (fs_for passes_cx rfl (fi_range rfl Xt.n_range fe_int) (fg_name (i := 3) sc__law_begun.nd rfl (Or.inl rfl)) (fss_one (fs_if (ft_cmp (op_neD (hu9 hr)) sndD (fe_mth (k := 5) (ps := ["self", "hand"]) rfl (fe_var 0) (mt_cons (T := ⟨K, ca⟩) (c := 5) Xt.cl_Book Xt.me_Book_coin_of (ok_Book_coin_of Xt) (by decide) mt_nil) (hr.mono (by decide)) (fa_cons (fe_var 3) fa_nil)) fe_int (nomark _)) (fss_one (fs_ret fe_bl)) fss_nil)))
    (fss_one (fs_ret (fe_cmp (op_eqD (hu9 hr)) sndD (fe_mth0 (k := 5) (ps := ["self"]) rfl (fe_var 0) (mt_cons (T := ⟨K, ca⟩) (c := 5) Xt.cl_Book Xt.me_Book_is_over (ok_Book_is_over Xt) (by decide) mt_nil) (hr.mono (by decide))) (fe_cmp (op_eqD (hu9 hr)) sndD (fe_callB (call_sumI rfl) (snd_sum rfl) rfl Xt.n_sum boot_sum (fa_cons (fe_frz (fe_lc (x := "_law_pot_here") (M' := []) (ix := []) rfl ⟨rfl, rfl, rfl, rfl, rfl, rfl⟩ (fi_seq rfl (fe_var 1)) (fun _ _ _ _ _ => fg_name (i := 0) (by show List.Nodup (("_law_pot_here" :: []) : List Str); decide +kernel) rfl (Or.inl rfl)) (fun _ _ _ _ _ => fif_nil) (fun _ _ _ _ _ => (fe_op (op_addD rfl) sndD (fe_ix ix_D (snd_ix rfl) (fe_var 0) fe_int (fun _ _ => rfl)) (fe_ix ix_D (snd_ix rfl) (fe_var 0) fe_int (fun _ _ => rfl)))))) fa_nil)) fe_int (nomark _)) (nomark _)))))))))

abbrev s_law : Stmt := top 30
noncomputable def g_law : Ev → M Fl :=
  (sSeq (sSet 1 (eFn 2 f__law_cell_at [] (aCons (eVar 0) (aCons (eC (.int 0)) aNil))))
  (sSeq (sSet 2 (eLC (srcR (eBin oIx (eLv (aCons (eBin oMod (eBin oDiv (eVar 1) (eC (.int 3))) (eC (.int 4))) (aCons (eBin oMod (eBin oDiv (eVar 1) (eC (.int 3))) (eC (.int 5))) aNil))) (eBin oDiv (eBin oMod (eBin oDiv (eVar 1) (eC (.int 15))) (eC (.int 3))) (eC (.int 2))))) [0] (tgN 0) bTrue (eFn 1 f__law_pot [] (aCons (eFn 2 f__law_cell_at [] (aCons (eVar 1) (aCons (eBin oAdd (eC (.int 3)) (eVar 0)) aNil))) aNil))))
  (sSeq (sIf (bAnd (eT (eBin oGt (eBin oMod (eVar 1) (eC (.int 3))) (eC (.int 0)))) (eT (eBin oNe (eVar 2) (eLv aNil)))) (sSeq (sSet 3 (eBin oMod (eFn 2 f__law_cell_at [] (aCons (eVar 0) (aCons (eC (.int 1)) aNil))) (eCall oLen (aCons (eVar 2) aNil))))
  (sSetL (eFn 2 f__law_spoiled [] (aCons (eBin oIx (eVar 2) (eVar 3)) (aCons (eFn 2 f__law_cell_at [] (aCons (eVar 0) (aCons (eC (.int 2)) aNil))) aNil))) (eVar 2) (eVar 3))) sNil)
  (sSeq (sSet 4 (eFrz (eLC (srcR (eCall oLen (aCons (eVar 2) aNil))) [2] (tgN 0) (bOr (eT (eBin oGt (eVar 0) (eC (.int 2)))) (bNot (eT (eFn 1 f__law_good [] (aCons (eBin oIx (eVar 1) (eVar 0)) aNil))))) (eVar 0))))
  (sSeq (sSet 5 (eCall oList (aCons (eVar 2) aNil)))
  (sSeq (sSet 6 (eC .non))
  (sSeq (sSet 7 (eC .non))
  (sSeq (sTry (sSet 6 (eFrz (eMake 5 2 f_Book___init__ (aCons (eVar 5) aNil)))) (⟨(htab [(0, false), (1, false), (102, true), (202, true), (302, true), (402, true)]), some 8, (sSet 7 (eTup (aCons (eUn (oPotX [102, 202, 302, 402]) (eVar 8)) (aCons (eAnd (eUn (oIsX (htab [(0, true), (1, true), (102, true), (202, true), (302, true), (402, true)])) (eVar 8)) (eAnd (eUn (oIsX (htab [(0, true), (1, true), (102, true), (202, true), (302, true), (402, true)])) (eVar 8)) (eNot (eUn (oIsX (htab [(0, false), (1, true), (102, false), (202, false), (302, false), (402, false)])) (eVar 8))))) aNil))))⟩ :: []))
  (sSeq (sIf (eT (eBin oNe (eVar 5) (eVar 2))) (sRet (eC (.bl false))) sNil)
  (sSeq (sIf (eT (eBin oNe (eVar 4) (eLv aNil))) (sRet (eBin oEq (eVar 7) (eTup (aCons (eBin oIx (eVar 4) (eC (.int 0))) (aCons (eC (.bl true)) aNil))))) sNil)
  (sSeq (sIf (eT (eBin oIsN (eVar 6) (eC .non))) (sRet (eC (.bl false))) sNil)
  (sSeq (sExp (eMeth oAppend (eVar 5) (aCons (eC (.int 5)) aNil)))
  (sSeq (sExp (eMeth oAppend (eMth [(5, f_Book_made_of)] 1 "made_of" (eVar 6) aNil) (aCons (eC (.int 5)) aNil)))
  (sRet (eFn 2 f__law_begun [] (aCons (eVar 6) (aCons (eVar 2) aNil)))))))))))))))))
noncomputable def f_law : List D → M D := run 9 g_law
theorem sc_law : FnScope ["_law_script", "_law_cell", "_law_pots", "_law_at", "_law_bad", "_law_handed", "_law_book", "_law_told", "e"] ["_law_script"] (defScope s_law) := ⟨rfl, rfl, rfl, by decide +kernel, rfl, by decide +kernel, by decide +kernel⟩
theorem bd_law : ∀ (kV doc pm : Value) (an : Option Addr) (cdv ct : Value) (us : List Value), us.length = (["_law_script"] : List Str).length → bindArgs (PySem.W.fnOf "law" "law" (defArgs s_law) (defBody s_law) (defScope s_law) .none kV doc pm an cdv ct) ⟨us, []⟩ = pure ((["_law_script"] : List Str).zip us) :=
  fun _ _ _ _ _ _ us hl => match us, hl with | [_], _ => rfl
theorem ok_law (Xt : Txt K mg ca) : OkL ⟨K, ca⟩ P w mg 8 "law" ["_law_script"] f_law :=
  ok_ofL Xt.f_law sc_law fun _ _ _ _ _ _ _ _ hr =>
    (fss_cons (fs_set (i := 1) sc_law.nd rfl (Or.inl rfl) (fe_callO (ok__law_cell_at Xt) rfl (hr.mono (by decide)) rfl (fa_cons (fe_var 0) (fa_cons fe_int fa_nil))))
    (fss_cons (fs_set (i := 2) sc_law.nd rfl (Or.inr rfl) (fe_lc (x := "_law_k") (M' := ["_law_script"]) (ix := [0]) rfl ⟨rfl, rfl, rfl, rfl, rfl, rfl⟩ (fi_range rfl Xt.n_range (fe_ix ix_D (snd_ix rfl) (fe_lv (fa_cons (fe_op op_mod snd_mod (fe_op op_fdiv snd_div (fe_var 1) fe_int) fe_int) (fa_cons (fe_op op_mod snd_mod (fe_op op_fdiv snd_div (fe_var 1) fe_int) fe_int) fa_nil))) (fe_op op_fdiv snd_div (fe_op op_mod snd_mod (fe_op op_fdiv snd_div (fe_var 1) fe_int) fe_int) fe_int) (fun _ _ => rfl))) (fun _ _ _ _ _ => fg_name (i := 0) (by show List.Nodup (("_law_k" :: ["_law_script"]) : List Str); decide +kernel) rfl (Or.inl rfl)) (fun _ _ _ _ _ => fif_nil) (fun _ _ _ _ _ => (fe_callO (ok__law_pot Xt) rfl (hr.mono (by decide)) rfl (fa_cons (fe_callO (ok__law_cell_at Xt) rfl (hr.mono (by decide)) rfl (fa_cons (fe_var 1) (fa_cons (fe_op (op_addD rfl) sndD fe_int (fe_var 0)) fa_nil))) fa_nil)))))
    (fss_cons (fs_if (L2.PW.pt (fw_and (ft_cmp op_gt snd_gt (fe_op op_mod snd_mod (fe_var 1) fe_int) fe_int (nomark _)) (fw_and1 (ft_cmp (op_neD (hu9 hr)) sndD (fe_var 2) (fe_lv fa_nil) (nomark _))))) (fss_cons (fs_set (i := 3) sc_law.nd rfl (Or.inl rfl) (fe_op op_mod snd_mod (fe_callO (ok__law_cell_at Xt) rfl (hr.mono (by decide)) rfl (fa_cons (fe_var 0) (fa_cons fe_int fa_nil))) (fe_callB call_len_seq (snd_len rfl) rfl Xt.n_len PySem.boot_len (fa_cons (fe_var 2) fa_nil))))
    (fss_one (fs_setL (fe_callO (ok__law_spoiled Xt) rfl (hr.mono (by decide)) rfl (fa_cons (fe_ix ix_D (snd_ix rfl) (fe_var 2) (fe_var 3) (fun _ _ => rfl)) (fa_cons (fe_callO (ok__law_cell_at Xt) rfl (hr.mono (by decide)) rfl (fa_cons (fe_var 0) (fa_cons fe_int fa_nil))) fa_nil))) (fe_var 2) (fe_var 3)))) fss_nil)
    (fss_cons (fs_setF (fs_setLC (i := 4) sc_law.nd rfl (Or.inl rfl) (x := "_law_k") (M' := ["_law_pots"]) (ix := [2]) rfl ⟨rfl, rfl, rfl, rfl, rfl, rfl⟩ (fi_range rfl Xt.n_range (fe_callB call_len_seq (snd_len rfl) rfl Xt.n_len PySem.boot_len (fa_cons (fe_var 2) fa_nil))) (fun _ _ _ _ _ => fg_name (i := 0) (by show List.Nodup (("_law_k" :: ["_law_pots"]) : List Str); decide +kernel) rfl (Or.inl rfl)) (fun _ _ _ _ _ => fif_one (L2.PW.pt (fw_or (ft_cmp op_gt snd_gt (fe_var 0) fe_int (nomark _)) (fw_or1 (ft_not (ft_val (fe_callO (ok__law_good Xt) rfl (hr.mono (by decide)) rfl (fa_cons (fe_ix ix_D (snd_ix rfl) (fe_var 1) (fe_var 0) (fun _ _ => rfl)) fa_nil)))))))) (fun _ _ _ _ _ => (fe_var 0))))
    (fss_cons (fs_set (i := 5) sc_law.nd rfl (Or.inl rfl) (fe_callTy call_list_of (snd_list rfl) rfl Xt.n_list boot_list (fa_cons (fe_var 2) fa_nil)))
    (fss_cons (fs_set (i := 6) sc_law.nd rfl (Or.inl rfl) fe_non)
    (fss_cons (fs_set (i := 7) sc_law.nd rfl (Or.inl rfl) fe_non)
    (fss_cons (fs_try rfl rfl (fun _ _ hpo => (fss_one (fs_set (i := 6) sc_law.nd rfl (Or.inl rfl) (fe_frz (fe_make (c := 5) (ps := ["self", "pots"]) ⟨_, Xt.m_Book, Xt.mk_Book, ok_Book___init__ Xt⟩ rfl (hr.mono (by decide)) rfl (fa_cons (fe_var 5) fa_nil)))))) (.consAs (i := 8) rfl (by decide) (.inl Xt.m_NoPot) (ht_of (ht_cons Xt.e_BookError_NoPot (ht_cons Xt.e_NoDeed_NoPot (ht_consC (hca_at Xt.hca 2 0 (by decide) (by decide)) Xt.e_NoPot_NoPot (ht_consC (hca_at Xt.hca 2 1 (by decide) (by decide)) Xt.e_NoPot_NoPot (ht_consC (hca_at Xt.hca 2 2 (by decide) (by decide)) Xt.e_NoPot_NoPot (ht_consC (hca_at Xt.hca 2 3 (by decide) (by decide)) Xt.e_NoPot_NoPot ht_nil))))))) sc_law.nd rfl rfl (fun _ => (fss_one (fs_set (i := 7) sc_law.nd rfl (Or.inl rfl) (fe_tup (fa_cons (fe_potX rfl (px_consC (hca_at Xt.hca 2 0 (by decide) (by decide)) Xt.xk_NoPot Xt.np_NoPot (px_consC (hca_at Xt.hca 2 1 (by decide) (by decide)) Xt.xk_NoPot Xt.np_NoPot (px_consC (hca_at Xt.hca 2 2 (by decide) (by decide)) Xt.xk_NoPot Xt.np_NoPot (px_consC (hca_at Xt.hca 2 3 (by decide) (by decide)) Xt.xk_NoPot Xt.np_NoPot px_nil)))) (fe_var 8)) (fa_cons (fe_and (fe_isX (t := htab [(0, true), (1, true), (102, true), (202, true), (302, true), (402, true)]) (fe_var 8) rfl Xt.n_isinstance rfl (by decide) (.own Xt.m_BookError) (ix_of (ix_cons Xt.xk_BookError Xt.i_BookError_BookError (ix_cons Xt.xk_NoDeed Xt.i_NoDeed_BookError (ix_consC (hca_at Xt.hca 2 0 (by decide) (by decide)) Xt.xk_NoPot Xt.i_NoPot_BookError (ix_consC (hca_at Xt.hca 2 1 (by decide) (by decide)) Xt.xk_NoPot Xt.i_NoPot_BookError (ix_consC (hca_at Xt.hca 2 2 (by decide) (by decide)) Xt.xk_NoPot Xt.i_NoPot_BookError (ix_consC (hca_at Xt.hca 2 3 (by decide) (by decide)) Xt.xk_NoPot Xt.i_NoPot_BookError ix_nil)))))))) (fe_and (fe_isX (t := htab [(0, true), (1, true), (102, true), (202, true), (302, true), (402, true)]) (fe_var 8) rfl Xt.n_isinstance rfl (by decide) (.bt Xt.n_ValueError rfl (by decide)) (ix_of (ix_cons Xt.xk_BookError Xt.i_BookError_ValueError (ix_cons Xt.xk_NoDeed Xt.i_NoDeed_ValueError (ix_consC (hca_at Xt.hca 2 0 (by decide) (by decide)) Xt.xk_NoPot Xt.i_NoPot_ValueError (ix_consC (hca_at Xt.hca 2 1 (by decide) (by decide)) Xt.xk_NoPot Xt.i_NoPot_ValueError (ix_consC (hca_at Xt.hca 2 2 (by decide) (by decide)) Xt.xk_NoPot Xt.i_NoPot_ValueError (ix_consC (hca_at Xt.hca 2 3 (by decide) (by decide)) Xt.xk_NoPot Xt.i_NoPot_ValueError ix_nil)))))))) (fe_one (fe_not (fe_isX (t := htab [(0, false), (1, true), (102, false), (202, false), (302, false), (402, false)]) (fe_var 8) rfl Xt.n_isinstance rfl (by decide) (.own Xt.m_NoDeed) (ix_of (ix_cons Xt.xk_BookError Xt.i_BookError_NoDeed (ix_cons Xt.xk_NoDeed Xt.i_NoDeed_NoDeed (ix_consC (hca_at Xt.hca 2 0 (by decide) (by decide)) Xt.xk_NoPot Xt.i_NoPot_NoDeed (ix_consC (hca_at Xt.hca 2 1 (by decide) (by decide)) Xt.xk_NoPot Xt.i_NoPot_NoDeed (ix_consC (hca_at Xt.hca 2 2 (by decide) (by decide)) Xt.xk_NoPot Xt.i_NoPot_NoDeed (ix_consC (hca_at Xt.hca 2 3 (by decide) (by decide)) Xt.xk_NoPot Xt.i_NoPot_NoDeed ix_nil)))))))))))) fa_nil)))))) .nil))
    (fss_cons (fs_if (ft_cmp (op_neD (hu9 hr)) sndD (fe_var 5) (fe_var 2) (nomark _)) (fss_one (fs_ret fe_bl)) fss_nil)
    (fss_cons (fs_if (ft_cmp (op_neD (hu9 hr)) sndD (fe_var 4) (fe_lv fa_nil) (nomark _)) (fss_one (fs_ret (fe_cmp (op_eqD (hu9 hr)) sndD (fe_var 7) (fe_tup (fa_cons (fe_ix ix_D (snd_ix rfl) (fe_var 4) fe_int (fun _ _ => rfl)) (fa_cons fe_bl fa_nil))) (nomark _)))) fss_nil)
    (fss_cons (fs_if (ft_cmp op_isN snd_isN (fe_var 6) fe_non (nomark _)) (fss_one (fs_ret fe_bl)) fss_nil)
    (fss_cons (fs_expr (fe_meth PySem.F.plainAttrs_list PySem.F.slot_list_append PySem.F.type_list_append mt_append snd_append (fe_var 5) (fa_cons fe_int fa_nil)))
    (fss_cons (fs_expr (fe_meth PySem.F.plainAttrs_list PySem.F.slot_list_append PySem.F.type_list_append mt_append snd_append (fe_mth0 (k := 1) (ps := ["self"]) rfl (fe_var 6) (mt_cons (T := ⟨K, ca⟩) (c := 5) Xt.cl_Book Xt.me_Book_made_of (ok_Book_made_of Xt) (by decide) mt_nil) (hr.mono (by decide))) (fa_cons fe_int fa_nil)))
    (fss_one (fs_ret (fe_callO (ok__law_begun Xt) rfl (hr.mono (by decide)) rfl (fa_cons (fe_var 6) (fa_cons (fe_var 2) fa_nil))))))))))))))))))

end
end K13

namespace K13
open PySem L2 L4
set_option maxHeartbeats 4000000

structure Pt where
  (l r u v t : Int)
def Pt.D (p : Pt) : L4.D := .tup [.int p.l, .int p.r, .int p.u, .int p.v, .int p.t]
structure Pt.Ok (p : Pt) : Prop where
  l : 0 ≤ p.l ∧ p.l ≤ 3
  r : 0 ≤ p.r ∧ p.r ≤ 3
  lr : p.l ≠ p.r
  u : 0 ≤ p.u ∧ p.u ≤ 1000000000000
  v : 0 ≤ p.v ∧ p.v ≤ 1000000000000
  t : 1 ≤ p.t ∧ p.t ≤ 100
/-- plain parts -/
def Sc : D → Bool
  | .int _ => true
  | .non => true
  | .bl _ => true
  | .str _ => true
  | _ => false
def bd (d : D) (a b : Int) : Bool := match d with
  | .int i => decide (a ≤ i) && decide (i ≤ b)
  | _ => false
theorem isInt_str (x : Str) (σ : Sto) : oIsB .int (.str x) σ = .ok (.bl false) σ := nr rfl
theorem bound_ap {d : D} (h : Sc d = true) (m : Int) (σ : Sto) : f__law_bound [d, .int m] σ = .ok (.bl (bd d 0 m)) σ := by
  unfold f__law_bound g__law_bound
  cases d with
  | int i => cases h2 : decide (0 ≤ i) <;> simp [bd, h2]
  | non => simp [bd]
  | bl b => simp [bd]
  | str x => simp [bd, isInt_str]
  | _ => cases h
theorem whole_ap' {d : D} (h : Sc d = true) (σ : Sto) : f_is_whole [d] σ = .ok (.bl (match d with | .int _ => true | _ => false)) σ := by
  unfold f_is_whole g_is_whole
  cases d with
  | int i => simp
  | non => simp
  | bl b => simp
  | str x => simp [isInt_str]
  | _ => cases h
theorem btw_ap {d : D} (h : Sc d = true) (a b : Int) (σ : Sto) : f_is_between [d, .int a, .int b] σ = .ok (.bl (bd d a b)) σ := by
  have w := fun σ => whole_ap' h σ
  unfold f_is_between g_is_between
  cases d with
  | int i => cases h2 : decide (a ≤ i) <;> simp [bd, h2, w]
  | non => simp [bd, w]
  | bl b => simp [bd, w]
  | str x => simp [bd, w]
  | _ => cases h
theorem hand_ap {d : D} (h : Sc d = true) (σ : Sto) : f_is_hand [d] σ = .ok (.bl (bd d 0 3)) σ := by
  have w := fun σ => btw_ap h 0 3 σ
  unfold f_is_hand g_is_hand
  generalize bd d 0 3 = b at *
  simp [w]
def neI (a b : D) : Bool := match a, b with
  | .int i, .int j => !(i == j)
  | _, _ => true
def gd5 (a b c d e : D) : Bool := bd a 0 3 && (bd b 0 3 && (neI a b && (bd c 0 1000000000000 && (bd d 0 1000000000000 && bd e 1 100))))
theorem bd_int {d : D} {a b : Int} (h : bd d a b = true) : ∃ i, d = .int i ∧ a ≤ i ∧ i ≤ b := by
  cases d with
  | int i => simp [bd] at h; exact ⟨i, rfl, h.1, h.2⟩
  | _ => simp [bd] at h
theorem ix_t4 (a b c d e : D) (r : List D) (σ : Sto) : oIx (.tup (a :: b :: c :: d :: e :: r)) (.int 4) σ = .ok e σ := oIx_tup (show atI _ ((4 : Nat) : Int) = _ from atI_nat rfl)
theorem neI_ap {a b : D} (ha : bd a 0 3 = true) (hb : bd b 0 3 = true) (σ : Sto) : oNe a b σ = .ok (.bl (neI a b)) σ ∧ oEq a b σ = .ok (.bl (!neI a b)) σ := by
  obtain ⟨i, rfl, _⟩ := bd_int ha
  obtain ⟨j, rfl, _⟩ := bd_int hb
  simp [neI]
theorem makes5 {a b c d e : D} (ha : Sc a = true) (hb : Sc b = true) (hc : Sc c = true) (hd : Sc d = true) (he : Sc e = true) (σ : Sto) : f_makes_a_pot [.tup [a, b, c, d, e]] σ = .ok (.bl (gd5 a b c d e)) σ := by
  have h1 := fun σ => hand_ap ha σ
  have h2 := fun σ => hand_ap hb σ
  have h3 := fun σ => btw_ap hc 0 1000000000000 σ
  have h4 := fun σ => btw_ap hd 0 1000000000000 σ
  have h5 := fun σ => btw_ap he 1 100 σ
  have hn : bd a 0 3 = true → bd b 0 3 = true → ∀ σ, oNe a b σ = .ok (.bl (neI a b)) σ := fun x y σ => (neI_ap x y σ).1
  have i4 := fun σ => ix_t4 a b c d e [] σ
  unfold f_makes_a_pot g_makes_a_pot gd5
  generalize bd a 0 3 = x1 at *
  generalize bd b 0 3 = x2 at *
  generalize bd c 0 1000000000000 = x3 at *
  generalize bd d 0 1000000000000 = x4 at *
  generalize bd e 1 100 = x5 at *
  generalize neI a b = x6 at *
  cases x1
  · simp [h1]
  · cases x2
    · simp [h1, h2]
    · have hn := hn rfl rfl
      cases x6
      · simp [h1, h2, hn]
      · cases x3
        · simp [h1, h2, hn, h3]
        · cases x4
          · simp [h1, h2, hn, h3, h4]
          · simp [h1, h2, hn, h3, h4, i4, h5]
theorem good5 {a b c d e : D} (ha : Sc a = true) (hb : Sc b = true) (hc : Sc c = true) (hd : Sc d = true) (he : Sc e = true) (σ : Sto) : f__law_good [.tup [a, b, c, d, e]] σ = .ok (.bl (gd5 a b c d e)) σ := by
  have h1 := fun σ => bound_ap ha 3 σ
  have h2 := fun σ => bound_ap hb 3 σ
  have h3 := fun σ => bound_ap hc 1000000000000 σ
  have h4 := fun σ => bound_ap hd 1000000000000 σ
  have h5 := fun σ => bound_ap he 100 σ
  have hn : bd a 0 3 = true → bd b 0 3 = true → ∀ σ, oEq a b σ = .ok (.bl (!neI a b)) σ := fun x y σ => (neI_ap x y σ).2
  have i4 := fun σ => ix_t4 a b c d e [] σ
  have hg : bd e 0 100 = false → bd e 1 100 = false := fun h => by
    cases h' : bd e 1 100 with
    | false => rfl
    | true => obtain ⟨i, rfl, q1, q2⟩ := bd_int h'; simp [bd] at h; omega
  have hg2 : bd e 0 100 = true → ∀ σ, oGt e (.int 0) σ = .ok (.bl (bd e 1 100)) σ := fun h σ => by
    obtain ⟨i, rfl, q1, q2⟩ := bd_int h
    rw [show bd (.int i) 1 100 = decide (i > 0) from by rw [Bool.eq_iff_iff]; simp [bd]; omega]
    exact oB_ap ..
  unfold f__law_good g__law_good gd5
  generalize bd a 0 3 = x1 at *
  generalize bd b 0 3 = x2 at *
  generalize bd c 0 1000000000000 = x3 at *
  generalize bd d 0 1000000000000 = x4 at *
  generalize bd e 1 100 = x5 at *
  generalize bd e 0 100 = x7 at *
  generalize neI a b = x6 at *
  cases x1
  · simp [h1]
  · cases x2
    · simp [h1, h2]
    · have hn := hn rfl rfl
      cases x6
      · simp [h1, h2, hn]
      · cases x3
        · simp [h1, h2, hn, h3]
        · cases x4
          · simp [h1, h2, hn, h3, h4]
          · simp [h1, h2, hn, h3, h4, i4, h5]
            cases x7
            · rw [hg rfl]; simp
            · have hg2 := hg2 rfl
              simp [i4, hg2]

@[simp] theorem eSl_ap (f : Ev → M D) (lo hi : PF) (ρ : Ev) (σ : Sto) : eSl f lo hi ρ σ = (f ρ σ).bind (sl0K (ePart lo ρ) (ePart hi ρ)) := nr rfl
@[simp] theorem sl0K_ap (lo hi : M (Option Int)) (x : D) (σ : Sto) : sl0K lo hi x σ = (lo σ).bind (sl1K x hi) := nr rfl
@[simp] theorem sl1K_ap (x : D) (hi : M (Option Int)) (lo : Option Int) (σ : Sto) : sl1K x hi lo σ = (hi σ).bind (sl2K x lo) := nr rfl
@[simp] theorem ePart_n (ρ : Ev) (σ : Sto) : ePart none ρ σ = .ok none σ := nr rfl
@[simp] theorem ePart_s (f : Ev → M D) (ρ : Ev) (σ : Sto) : ePart (some f) ρ σ = (f ρ σ).bind partK := nr rfl
@[simp] theorem partK_i (i : Int) (σ : Sto) : partK (.int i) σ = .ok (some i) σ := nr rfl
@[simp] theorem sl2K_tup (xs : List D) (lo hi : Option Int) (σ : Sto) : sl2K (.tup xs) lo hi σ = .ok (.tup (cutD xs lo hi)) σ := nr rfl
/-- a place of a list, whatever holds of all that is in it -/
theorem ixL {P : D → Prop} {xs : List D} {k : Int} (h0 : 0 ≤ k) (h1 : k < xs.length) (h : ∀ x ∈ xs, P x) : ∃ V, P V ∧ ∀ σ, oIx (.lst xs) (.int k) σ = .ok V σ := by
  refine ⟨xs.getD k.toNat .non, ?_, fun σ => oIx_lst (atI_D h0 h1)⟩
  have hn : k.toNat < xs.length := by omega
  rw [List.getD_eq_getElem?_getD, List.getElem?_eq_getElem hn]
  exact h _ (List.getElem_mem hn)
theorem frzList {xs : List D} (h : clL xs = true) (σ : Sto) : frzO σ (oList [.tup xs] σ) = .ok (.lst xs) σ := by
  have e : oList [.tup xs] σ = .ok (.ref σ.length) (σ ++ [.lst xs]) := nr rfl
  rw [e]
  have := frzO_lst (σ := σ) (j := []) (j' := []) h
  simpa using this
theorem oAdd_t' {xs ys : List D} (h : xs.length + ys.length ≤ 1000) (σ : Sto) : oAdd (.tup xs) (.tup ys) σ = .ok (.tup (xs ++ ys)) σ := oAdd_tup h
theorem sc_cl {d : D} (h : Sc d = true) : cl d = true := by cases d <;> first | (cases h; done) | simp
theorem sc_eq {d : D} (h : Sc d = true) (n : Nat) (σ : Sto) : eqD σ n d d = some true := by
  cases n <;> cases d <;> first | (simp [eqD, kd, eqK, eqV]; done) | cases h
theorem eqL_self {f : D → D → Option Bool} : ∀ {xs : List D}, (∀ x ∈ xs, f x x = some true) → eqL f xs xs = some true
  | [], _ => rfl
  | x :: xs, h => by
    unfold eqL
    rw [h x List.mem_cons_self, eqL_self fun y hy => h y (List.mem_cons_of_mem _ hy)]
    rfl
theorem clL_sc {xs : List D} (h : ∀ x ∈ xs, Sc x = true) : clL xs = true := clL_all fun d hd => sc_cl (h d hd)
/-- a thing that may be asked whether it is a pot -/
structure Th (d : D) (b : Bool) : Prop where
  good : ∀ σ, f__law_good [d] σ = .ok (.bl b) σ
  makes : ∀ σ, f_makes_a_pot [d] σ = .ok (.bl b) σ
  cl : L4.cl d = true
  eq : ∀ σ, eqD σ 7 d d = some true
  pot : b = true → ∃ p : Pt, p.Ok ∧ d = p.D
theorem eq_tup {xs : List D} (h : ∀ x ∈ xs, Sc x = true) (σ : Sto) : eqD σ 7 (.tup xs) (.tup xs) = some true := by
  show eqL (eqD σ 6) xs xs = some true
  exact eqL_self fun x hx => sc_eq (h x hx) 6 σ
theorem th5 {a b c d e : D} (h : ∀ x ∈ [a, b, c, d, e], Sc x = true) : Th (.tup [a, b, c, d, e]) (gd5 a b c d e) where
  good := fun σ => good5 (h a (by simp)) (h b (by simp)) (h c (by simp)) (h d (by simp)) (h e (by simp)) σ
  makes := fun σ => makes5 (h a (by simp)) (h b (by simp)) (h c (by simp)) (h d (by simp)) (h e (by simp)) σ
  cl := by rw [cl_tup]; exact clL_sc h
  eq := eq_tup h
  pot := fun q => by
    unfold gd5 at q
    simp only [Bool.and_eq_true] at q
    obtain ⟨q1, q2, q3, q4, q5, q6⟩ := q
    obtain ⟨i1, rfl, a1⟩ := bd_int q1
    obtain ⟨i2, rfl, a2⟩ := bd_int q2
    obtain ⟨i3, rfl, a3⟩ := bd_int q4
    obtain ⟨i4, rfl, a4⟩ := bd_int q5
    obtain ⟨i5, rfl, a5⟩ := bd_int q6
    exact ⟨⟨i1, i2, i3, i4, i5⟩, ⟨a1, a2, by simpa [neI] using q3, a3, a4, a5⟩, rfl⟩
theorem th_tup {xs : List D} (h : ∀ x ∈ xs, Sc x = true) (hl : xs.length ≠ 5) : Th (.tup xs) false where
  good := fun σ => by
    have b : ((xs.length : Int) == 5) = false := by simp; omega
    unfold f__law_good g__law_good
    simp [b]
  makes := fun σ => by
    have b : ((xs.length : Int) == 5) = false := by simp; omega
    unfold f_makes_a_pot g_makes_a_pot
    simp [b]
  cl := by rw [cl_tup]; exact clL_sc h
  eq := eq_tup h
  pot := fun q => by cases q
theorem isb_lt (s : List D) (σ : Sto) : oIsB .tuple (.lst s) σ = .ok (.bl false) σ := nr rfl
theorem th_lst {xs : List D} (h : ∀ x ∈ xs, Sc x = true) : Th (.lst xs) false where
  good := fun σ => by
    unfold f__law_good g__law_good
    simp [isb_lt]
  makes := fun σ => by
    unfold f_makes_a_pot g_makes_a_pot
    simp [isb_lt]
  cl := by rw [cl_lst]; exact clL_sc h
  eq := fun σ => by
    show eqL (eqD σ 6) xs xs = some true
    exact eqL_self fun x hx => sc_eq (h x hx) 6 σ
  pot := fun q => by cases q
theorem th_non : Th .non false where
  good := fun σ => by unfold f__law_good g__law_good; simp
  makes := fun σ => by unfold f_makes_a_pot g_makes_a_pot; simp
  cl := rfl
  eq := fun σ => sc_eq rfl 7 σ
  pot := fun q => by cases q
theorem th_int (i : Int) : Th (.int i) false where
  good := fun σ => by unfold f__law_good g__law_good; simp
  makes := fun σ => by unfold f_makes_a_pot g_makes_a_pot; simp
  cl := rfl
  eq := fun σ => sc_eq rfl 7 σ
  pot := fun q => by cases q
theorem th_pot {p : Pt} (h : p.Ok) : Th p.D true := by
  have t := th5 (a := .int p.l) (b := .int p.r) (c := .int p.u) (d := .int p.v) (e := .int p.t) (by intro x hx; simp at hx; rcases hx with rfl | rfl | rfl | rfl | rfl <;> rfl)
  have e : gd5 (.int p.l) (.int p.r) (.int p.u) (.int p.v) (.int p.t) = true := by
    have := h.l; have := h.r; have := h.lr; have := h.u; have := h.v; have := h.t
    simp [gd5, bd, neI]
    refine ⟨⟨?_, ?_⟩, ⟨?_, ?_⟩, ?_, ⟨?_, ?_⟩, ⟨?_, ?_⟩, ?_, ?_⟩ <;> first | omega | assumption
  rw [e] at t
  exact t
theorem odd_ap (c m : Int) : ∃ V, Sc V = true ∧ ∀ σ, f__law_odd [.int c, .int m] σ = .ok V σ := by
  have hp : ∀ σ, oPow (.int 10) (.int 40) σ = .ok (.int (10 ^ 40)) σ := fun σ => p40
  have hm : ∀ i σ, oMod (.int i) (.int (10 ^ 40)) σ = .ok (.int (i % 10 ^ 40)) σ := fun i σ => oMod_ap i _ (by decide)
  obtain ⟨V, h1, h2⟩ := ixL (P := fun d => Sc d = true) (xs := [.int 0, .int m, .int (m + 1), .int (-1), .int (-(1 + c / 9 % 10 ^ 40)), .int (m + (1 + c / 9 % 10 ^ 40)), .non, .bl true, .str "1"]) (k := c % 9) (by omega) (by simp; omega) (by intro x hx; simp at hx; rcases hx with rfl | rfl | rfl | rfl | rfl | rfl | rfl | rfl | rfl <;> rfl)
  refine ⟨V, h1, fun σ => ?_⟩
  have hc := sc_cl h1
  unfold f__law_odd g__law_odd
  generalize (10 : Int) ^ 40 = T at *
  simp [hp, hm, h2, hc, -p40]

@[simp] theorem ix_l0 (a : D) (r : List D) (σ : Sto) : oIx (.lst (a :: r)) (.int 0) σ = .ok a σ := oIx_lst (show atI _ ((0 : Nat) : Int) = _ from atI_nat rfl)
@[simp] theorem ix_l1 (a b : D) (r : List D) (σ : Sto) : oIx (.lst (a :: b :: r)) (.int 1) σ = .ok b σ := oIx_lst (show atI _ ((1 : Nat) : Int) = _ from atI_nat rfl)
@[simp] theorem ix_l2 (a b c : D) (r : List D) (σ : Sto) : oIx (.lst (a :: b :: c :: r)) (.int 2) σ = .ok c σ := oIx_lst (show atI _ ((2 : Nat) : Int) = _ from atI_nat rfl)
@[simp] theorem ix_l3 (a b c d : D) (r : List D) (σ : Sto) : oIx (.lst (a :: b :: c :: d :: r)) (.int 3) σ = .ok d σ := oIx_lst (show atI _ ((3 : Nat) : Int) = _ from atI_nat rfl)
@[simp] theorem ix_l4 (a b c d e : D) (r : List D) (σ : Sto) : oIx (.lst (a :: b :: c :: d :: e :: r)) (.int 4) σ = .ok e σ := oIx_lst (show atI _ ((4 : Nat) : Int) = _ from atI_nat rfl)
def coinV (c k : Int) : Int := [c / 12 % 1000000000000, c / 12 % 50, 1000000000000, 0].getD (k % 4).toNat 0
def waitV (c : Int) : Int := [1 + c / 12 % 100, 1, 100].getD (c / 7 % 3).toNat 0
def mkP (c : Int) : Pt := ⟨c % 4, (c % 4 + 1 + c / 4 % 3) % 4, coinV c (c / 5), coinV c (c / 20), waitV c⟩
theorem coinV_ok (c k : Int) : 0 ≤ coinV c k ∧ coinV c k ≤ 1000000000000 := by
  unfold coinV
  have h : k % 4 = 0 ∨ k % 4 = 1 ∨ k % 4 = 2 ∨ k % 4 = 3 := by omega
  rcases h with h | h | h | h <;> rw [h]
  · show 0 ≤ c / 12 % 1000000000000 ∧ c / 12 % 1000000000000 ≤ 1000000000000; omega
  · show 0 ≤ c / 12 % 50 ∧ c / 12 % 50 ≤ 1000000000000; omega
  · show (0 : Int) ≤ 1000000000000 ∧ (1000000000000 : Int) ≤ 1000000000000; decide
  · show (0 : Int) ≤ 0 ∧ (0 : Int) ≤ 1000000000000; decide
theorem waitV_ok (c : Int) : 1 ≤ waitV c ∧ waitV c ≤ 100 := by
  unfold waitV
  have h : c / 7 % 3 = 0 ∨ c / 7 % 3 = 1 ∨ c / 7 % 3 = 2 := by omega
  rcases h with h | h | h <;> rw [h]
  · show 1 ≤ 1 + c / 12 % 100 ∧ 1 + c / 12 % 100 ≤ 100; omega
  · show (1 : Int) ≤ 1 ∧ (1 : Int) ≤ 100; decide
  · show (1 : Int) ≤ 100 ∧ (100 : Int) ≤ 100; decide
theorem mkP_ok (c : Int) : (mkP c).Ok := by
  refine ⟨?_, ?_, ?_, coinV_ok _ _, coinV_ok _ _, waitV_ok _⟩ <;> simp only [mkP] <;> omega
theorem pot_ap (c : Int) (σ : Sto) : f__law_pot [.int c] σ = .ok (mkP c).D σ := by
  have i1 : ∀ k σ, oIx (.lst [.int (c / 12 % 1000000000000), .int (c / 12 % 50), .int 1000000000000, .int 0]) (.int (k % 4)) σ = .ok (.int (coinV c k)) σ := fun k σ => ixI4 ..
  have i2 : ∀ σ, oIx (.lst [.int (1 + c / 12 % 100), .int 1, .int 100]) (.int (c / 7 % 3)) σ = .ok (.int (waitV c)) σ := fun σ => ixI3 ..
  have e : (mkP c).D = .tup [.int (c % 4), .int ((c % 4 + 1 + c / 4 % 3) % 4), .int (coinV c (c / 5)), .int (coinV c (c / 20)), .int (waitV c)] := rfl
  rw [e]
  unfold f__law_pot g__law_pot
  simp [i1, i2, -ixI4, -ixI3]

theorem sc5 (p : Pt) : ∀ x ∈ [D.int p.l, .int p.r, .int p.u, .int p.v, .int p.t], Sc x = true := by
  intro x hx; simp at hx; rcases hx with rfl | rfl | rfl | rfl | rfl <;> rfl
theorem scI (i : Int) : Sc (.int i) = true := rfl
theorem spoiled_ap (p : Pt) (c : Int) : ∃ d b, Th d b ∧ ∀ σ, f__law_spoiled [p.D, .int c] σ = .ok d σ := by
  generalize hw : c % 8 = w
  generalize hk : c / 8 = k
  have hc : w = 0 ∨ w = 1 ∨ w = 2 ∨ w = 3 ∨ w = 4 ∨ w = 5 ∨ w = 6 ∨ w = 7 := by omega
  have ad : ∀ (xs ys : List D) σ, xs.length + ys.length ≤ 1000 → oAdd (.tup xs) (.tup ys) σ = .ok (.tup (xs ++ ys)) σ := fun xs ys σ h => oAdd_t' h σ
  obtain ⟨l, r, u, v, t⟩ := p
  unfold Pt.D
  dsimp only
  rcases hc with rfl | rfl | rfl | rfl | rfl | rfl | rfl | rfl
  · obtain ⟨V, hV, e⟩ := odd_ap k 3
    refine ⟨_, _, th5 (a := V) (b := .int r) (c := .int u) (d := .int v) (e := .int t) (by intro x hx; simp at hx; rcases hx with rfl | rfl | rfl | rfl | rfl <;> first | exact hV | rfl), fun σ => ?_⟩
    have q1 : cutD [D.int l, .int r, .int u, .int v, .int t] none (some 0) = [] := rfl
    have q2 : cutD [D.int l, .int r, .int u, .int v, .int t] (some 1) none = [.int r, .int u, .int v, .int t] := rfl
    have hcl := sc_cl hV
    unfold f__law_spoiled g__law_spoiled
    simp [hw, hk, e, q1, q2, ad, hcl]
  · obtain ⟨V, hV, e⟩ := odd_ap k 3
    refine ⟨_, _, th5 (a := .int l) (b := V) (c := .int u) (d := .int v) (e := .int t) (by intro x hx; simp at hx; rcases hx with rfl | rfl | rfl | rfl | rfl <;> first | exact hV | rfl), fun σ => ?_⟩
    have q1 : cutD [D.int l, .int r, .int u, .int v, .int t] none (some 1) = [.int l] := rfl
    have q2 : cutD [D.int l, .int r, .int u, .int v, .int t] (some 2) none = [.int u, .int v, .int t] := rfl
    have hcl := sc_cl hV
    unfold f__law_spoiled g__law_spoiled
    simp [hw, hk, e, q1, q2, ad, hcl]
  · obtain ⟨V, hV, e⟩ := odd_ap k 1000000000000
    refine ⟨_, _, th5 (a := .int l) (b := .int r) (c := V) (d := .int v) (e := .int t) (by intro x hx; simp at hx; rcases hx with rfl | rfl | rfl | rfl | rfl <;> first | exact hV | rfl), fun σ => ?_⟩
    have q1 : cutD [D.int l, .int r, .int u, .int v, .int t] none (some 2) = [.int l, .int r] := rfl
    have q2 : cutD [D.int l, .int r, .int u, .int v, .int t] (some 3) none = [.int v, .int t] := rfl
    have hcl := sc_cl hV
    unfold f__law_spoiled g__law_spoiled
    simp [hw, hk, e, q1, q2, ad, hcl]
  · obtain ⟨V, hV, e⟩ := odd_ap k 1000000000000
    refine ⟨_, _, th5 (a := .int l) (b := .int r) (c := .int u) (d := V) (e := .int t) (by intro x hx; simp at hx; rcases hx with rfl | rfl | rfl | rfl | rfl <;> first | exact hV | rfl), fun σ => ?_⟩
    have q1 : cutD [D.int l, .int r, .int u, .int v, .int t] none (some 3) = [.int l, .int r, .int u] := rfl
    have q2 : cutD [D.int l, .int r, .int u, .int v, .int t] (some 4) none = [.int t] := rfl
    have hcl := sc_cl hV
    unfold f__law_spoiled g__law_spoiled
    simp [hw, hk, e, q1, q2, ad, hcl]
  · obtain ⟨V, hV, e⟩ := odd_ap k 100
    refine ⟨_, _, th5 (a := .int l) (b := .int r) (c := .int u) (d := .int v) (e := V) (by intro x hx; simp at hx; rcases hx with rfl | rfl | rfl | rfl | rfl <;> first | exact hV | rfl), fun σ => ?_⟩
    have q1 : cutD [D.int l, .int r, .int u, .int v, .int t] none (some 4) = [.int l, .int r, .int u, .int v] := rfl
    have q2 : cutD [D.int l, .int r, .int u, .int v, .int t] (some 5) none = [] := rfl
    have hcl := sc_cl hV
    unfold f__law_spoiled g__law_spoiled
    simp [hw, hk, e, q1, q2, ad, hcl]
  · refine ⟨_, _, th5 (a := .int l) (b := .int l) (c := .int u) (d := .int v) (e := .int t) (by intro x hx; simp at hx; rcases hx with rfl | rfl | rfl | rfl <;> rfl), fun σ => ?_⟩
    have q2 : cutD [D.int l, .int r, .int u, .int v, .int t] (some 2) none = [.int u, .int v, .int t] := rfl
    unfold f__law_spoiled g__law_spoiled
    simp [hw, hk, q2, ad]
  · have hm : ∀ (z : Int) σ, oMul (.int z) (.int 9) σ = .ok (.int (z * 9)) σ := fun z σ => oMul_ap (cMul_R (by decide) (by decide))
    have h2 : k % 2 = 0 ∨ k % 2 = 1 := by omega
    rcases h2 with h2 | h2
    · refine ⟨_, _, th_tup (xs := [.int l, .int r, .int u, .int v]) (by intro x hx; simp at hx; rcases hx with rfl | rfl | rfl | rfl <;> rfl) (by simp), fun σ => ?_⟩
      have q1 : cutD [D.int l, .int r, .int u, .int v, .int t] none (some 4) = [.int l, .int r, .int u, .int v] := rfl
      unfold f__law_spoiled g__law_spoiled
      simp [hw, hk, h2, q1, ad, hm, oRep1_0]
    · refine ⟨_, _, th_tup (xs := [.int l, .int r, .int u, .int v, .int t, .int 5]) (by intro x hx; simp at hx; rcases hx with rfl | rfl | rfl | rfl | rfl | rfl <;> rfl) (by simp), fun σ => ?_⟩
      have q1 : cutD [D.int l, .int r, .int u, .int v, .int t] none (some 13) = [.int l, .int r, .int u, .int v, .int t] := rfl
      unfold f__law_spoiled g__law_spoiled
      simp [hw, hk, h2, q1, ad, hm, oRep1_1]
  · have h3 : k % 3 = 0 ∨ k % 3 = 1 ∨ k % 3 = 2 := by omega
    have fl : ∀ σ, frzO σ (oList [.tup [D.int l, .int r, .int u, .int v, .int t]] σ) = .ok (.lst [D.int l, .int r, .int u, .int v, .int t]) σ := fun σ => frzList (by simp) σ
    rcases h3 with h3 | h3 | h3
    · refine ⟨_, _, th_lst (xs := [.int l, .int r, .int u, .int v, .int t]) (sc5 ⟨l, r, u, v, t⟩), fun σ => ?_⟩
      unfold f__law_spoiled g__law_spoiled
      simp [hw, hk, h3, fl]
    · refine ⟨_, _, th_non, fun σ => ?_⟩
      unfold f__law_spoiled g__law_spoiled
      simp [hw, hk, h3, fl]
    · refine ⟨_, _, th_int 4, fun σ => ?_⟩
      unfold f__law_spoiled g__law_spoiled
      simp [hw, hk, h3, fl]

theorem loopN_step {nx : NX} {tg : D → Ev → Option Ev} {body : Ev → M Fl} {k i : Nat} {ρ ρ1 : Ev} {σ : Sto} {d : D} (h : nx i σ = some (some d)) (ht : tg d ρ = some ρ1) : loopN nx tg body (k + 1) i ρ σ = (body ρ1 σ).bind (loopK (loopN nx tg body k (i + 1))) := by
  rw [loopN]; simp only [h, ht]; rfl
theorem loopN_end {nx : NX} {tg : D → Ev → Option Ev} {body : Ev → M Fl} {k i : Nat} {ρ : Ev} {σ : Sto} (h : nx i σ = some none) : loopN nx tg body (k + 1) i ρ σ = .ok (.nx ρ) σ := by
  rw [loopN]; simp only [h]
@[simp] theorem srcE_ap (f : Ev → M D) (ρ : Ev) (σ : Sto) : srcE f ρ σ = (f ρ σ).bind enumK := nr rfl
@[simp] theorem sForN_ap (src : Ev → M NX) (tg : D → Ev → Option Ev) (body : Ev → M Fl) (ρ : Ev) (σ : Sto) : sForN src tg body ρ σ = xsO ρ (forNK tg body ρ) (src ρ σ) := xs_ap ..
@[simp] theorem sRaiseP_ap (c : Nat) (f : Ev → M D) (ρ : Ev) (σ : Sto) : sRaiseP c f ρ σ = xsO ρ (raisePK c ρ) (f ρ σ) := xs_ap ..
section
variable {σ : Sto} {x : D} {xs : List D}
theorem enumK_of (h : lsOf σ x = some xs) : enumK x σ = .ok (nxE x) σ := by unfold enumK; rw [h]
theorem nxE_of {i : Nat} {d : D} (h : lsOf σ x = some xs) (hi : xs[i]? = some d) : nxE x i σ = some (some (.tup [.int i, d])) := by unfold nxE; rw [h]; simp only [hi]
theorem nxE_fin (h : lsOf σ x = some xs) : nxE x xs.length σ = some none := by unfold nxE; rw [h]; simp
end
/-- the things of the list, and whether each is a pot -/
structure Ths (n : Nat) (F : Nat → D) (g : Nat → Bool) : Prop where
  le : n ≤ 4
  th : ∀ i, i < n → Th (F i) (g i)
def thL (n : Nat) (F : Nat → D) : List D := (List.range n).map F
theorem thL_at {n i : Nat} (F : Nat → D) (h : i < n) : (thL n F)[i]? = some (F i) := by simp [thL, h]
theorem thL_len (n : Nat) (F : Nat → D) : (thL n F).length = n := by simp [thL]
theorem Ths.cl {n : Nat} {F : Nat → D} {g : Nat → Bool} (h : Ths n F g) : clL (thL n F) = true := clL_all fun d hd => by
  obtain ⟨i, hi, rfl⟩ := List.mem_map.mp hd
  exact (h.th i (List.mem_range.mp hi)).cl
/-- no pot, or one too many -/
def bdI (g : Nat → Bool) (i : Nat) : Bool := decide (2 < i) || !g i
/-- the first from i on, of k -/
def fb (g : Nat → Bool) : Nat → Nat → Option Nat
  | 0, _ => none
  | k + 1, i => if bdI g i = true then some i else fb g k (i + 1)
noncomputable abbrev ckB : Ev → M Fl := (sIf (bOr (eT (eBin oGt (eVar 1) (eC (.int 2)))) (bNot (eT (eFn 1 f_makes_a_pot [] (aCons (eVar 2) aNil))))) (sRaiseP 2 (eVar 1)) sNil)
theorem ck_loop {n : Nat} {F : Nat → D} {g : Nat → Bool} (T : Ths n F g) {σ : Sto} {x : D} (hx : lsOf σ x = some (thL n F)) : ∀ (k i f : Nat) (x1 x2 : Option D), i + k = n → f = 1001 - i → ∃ y1 y2,
    loopN (nxE x) (tgT 2 (tgCons (tgN 1) (tgCons (tgN 2) tgNil))) ckB f i [some x, x1, x2] σ = .ok (match fb g k i with | none => .nx [some x, y1, y2] | some j => .xc [some x, y1, y2] ⟨2 + 100 * (j + 1)⟩) σ := by
  intro k
  induction k with
  | zero =>
    intro i f x1 x2 hik hf
    obtain rfl : i = n := by omega
    have := T.le
    obtain ⟨f', rfl⟩ : ∃ f', f = f' + 1 := ⟨f - 1, by omega⟩
    have e := nxE_fin hx
    rw [thL_len] at e
    exact ⟨x1, x2, loopN_end e⟩
  | succ k ih =>
    intro i f x1 x2 hik hf
    have hi : i < n := by omega
    have h4 := T.le
    obtain ⟨f', rfl⟩ : ∃ f', f = f' + 1 := ⟨f - 1, by omega⟩
    have th := T.th i hi
    have mk := fun σ => th.makes σ
    have st : ckB [some x, some (.int i), some (F i)] σ = .ok (if bdI g i = true then .xc [some x, some (.int i), some (F i)] ⟨2 + 100 * (i + 1)⟩ else .nx [some x, some (.int i), some (F i)]) σ := by
      have rp : raisePK 2 [some x, some (.int i), some (F i)] (.int i) σ = .ok (.xc [some x, some (.int i), some (F i)] ⟨2 + 100 * (i + 1)⟩) σ := raisePK_ap (by omega)
      have b : decide ((2 : Int) < (i : Int)) = decide (2 < i) := by rw [Bool.eq_iff_iff]; simp; omega
      unfold ckB bdI
      generalize F i = Fi at *
      generalize g i = gi at *
      cases b2 : decide (2 < i)
      · rw [b2] at b
        cases gi
        · simp [mk, b, rp]
        · simp [mk, b]
      · rw [b2] at b
        simp [b, rp]
    have nx := nxE_of hx (thL_at F hi)
    unfold fb
    rw [loopN_step nx (ρ1 := [some x, some (.int i), some (F i)]) (nr rfl), st, bind_ok]
    cases hb : bdI g i with
    | true => exact ⟨some (.int i), some (F i), by simp⟩
    | false =>
      obtain ⟨z1, z2, e2⟩ := ih (i + 1) f' (some (.int i)) (some (F i)) (by omega) (by omega)
      refine ⟨z1, z2, ?_⟩
      simp only [Bool.false_eq_true, if_false, loopK_nx]
      exact e2
theorem frzList' {xs : List D} {x : D} {σ : Sto} (hx : seqOf σ x = some xs) (h : clL xs = true) : frzO σ (oList [x] σ) = .ok (.lst xs) σ := by
  have e : oList [x] σ = .ok (.ref σ.length) (σ ++ [.lst xs]) := by unfold oList; simp only [hx]; rfl
  rw [e]
  have := frzO_lst (σ := σ) (j := []) (j' := []) h
  simpa using this
theorem checked_ap {n : Nat} {F : Nat → D} {g : Nat → Bool} (T : Ths n F g) {σ : Sto} {x : D} (hx : lsOf σ x = some (thL n F)) (hs : seqOf σ x = some (thL n F)) : f_checked_pots [x] σ = match fb g n 0 with | none => .ok (.lst (thL n F)) σ | some j => .ex ⟨2 + 100 * (j + 1)⟩ σ := by
  obtain ⟨y1, y2, e⟩ := ck_loop T hx n 0 1001 none none (by omega) (by omega)
  have ek := enumK_of hx
  have fk : ∀ (tg : D → Ev → Option Ev) (body : Ev → M Fl) (ρ : Ev) (nx : NX), forNK tg body ρ nx = loopN nx tg body 1001 0 ρ := fun _ _ _ _ => rfl
  have fl := frzList' hs T.cl
  have hc : cl (.lst (thL n F)) = true := by rw [cl_lst]; exact T.cl
  unfold ckB at e
  unfold f_checked_pots g_checked_pots
  generalize D.lst (thL n F) = PL at *
  cases hb : fb g n 0 with
  | none => rw [hb] at e; simp [ek, fk, e, fl, hc, -sIf_ap]
  | some j => rw [hb] at e; simp [ek, fk, e, -sIf_ap]

def Pt.w (p : Pt) : Int := p.u + p.v
def hdD (p : Pt) : D := .obj 4 ["whole"] [.int p.w]
def potL (n : Nat) (P : Nat → Pt) : D := .lst (thL n fun i => (P i).D)
def hdL (n : Nat) (P : Nat → Pt) : D := .lst ((List.range n).map fun i => hdD (P i))
def shL (n : Nat) : D := .lst ((List.range n).map fun _ => D.dic [] [])
/-- the book that is made -/
def bkD (n : Nat) (P : Nat → Pt) : D := .obj 5 ["pots", "day", "claims", "shown"] [potL n P, .int 0, hdL n P, shL n]
@[simp] theorem cl_potL (n : Nat) (P : Nat → Pt) : cl (potL n P) = true := by
  unfold potL; rw [cl_lst]; exact clL_all fun d hd => by
    obtain ⟨i, _, rfl⟩ := List.mem_map.mp hd
    simp [Pt.D]
@[simp] theorem cl_hdL (n : Nat) (P : Nat → Pt) : cl (hdL n P) = true := by
  unfold hdL; rw [cl_lst]; exact clL_all fun d hd => by
    obtain ⟨i, _, rfl⟩ := List.mem_map.mp hd
    simp [hdD]
theorem cl_dic0 : cl (.dic [] []) = true := by simp [cl]
@[simp] theorem cl_shL (n : Nat) : cl (shL n) = true := by
  unfold shL; rw [cl_lst]; exact clL_all fun d hd => by
    obtain ⟨i, _, rfl⟩ := List.mem_map.mp hd
    exact cl_dic0
theorem whole_ap (p : Pt) (σ : Sto) : f_whole_of [p.D] σ = .ok (.int p.w) σ := by
  unfold f_whole_of g_whole_of Pt.D Pt.w; simp
theorem claim_init (y : D) (σ : Sto) : f_Claim___init__ [.ref σ.length, y] (σ ++ [.ins 4 []]) = .ok .non (σ ++ [.ins 4 [("whole", y)]]) := by
  have p : ∀ ρ, putK2 ρ [3, 4] "whole" y (.ref σ.length) (σ ++ [.ins 4 []]) = .ok (.nx ρ) (σ ++ [.ins 4 [("whole", y)]]) := fun ρ => putK2_end rfl (by decide)
  unfold f_Claim___init__ g_Claim___init__
  simp [p]
theorem make_held (w : Int) (σ : Sto) : frzO σ (makeK 4 2 f_Claim___init__ [.int w] σ) = .ok (.obj 4 ["whole"] [.int w]) σ := by
  rw [makeK_1, claim_init, noneO_ok, frzO_ins (by simp)]; rfl
section
variable {σ : Sto} {fs : List (Str × D)}
theorem fld_end {f : Str} {d : D} (h : fs.lookup f = some d) : oFld [5] f (.ref σ.length) (σ ++ [.ins 5 fs]) = .ok d (σ ++ [.ins 5 fs]) := oFld_ap (c := 5) (by unfold insOf; simp) rfl h
theorem held_lc (n : Nat) (P : Nat → Pt) (hn : n ≤ 4) (x : D) (h : fs.lookup ("pots" : Str) = some (potL n P)) :
    eFrz (eLC (srcS (eUn (oFld [5] "pots") (eVar 0))) [] (tgN 0) bTrue (eFrz (eMake 4 2 f_Claim___init__ (aCons (eFn 1 f_whole_of [] (aCons (eVar 0) aNil)) aNil)))) [some (.ref σ.length), some x] (σ ++ [.ins 5 fs]) = .ok (hdL n P) (σ ++ [.ins 5 fs]) := by
  have fl := fld_end (σ := σ) h
  have := lc_map (ix := []) (ρ := [some (.ref σ.length), some x]) (σ := σ ++ [.ins 5 fs]) (src := srcS (eUn (oFld [5] "pots") (eVar 0))) (fe := eFrz (eMake 4 2 f_Claim___init__ (aCons (eFn 1 f_whole_of [] (aCons (eVar 0) aNil)) aNil))) (ds := thL n fun i => (P i).D)
    (fun d => match d with | .tup [_, _, .int u, .int v, _] => .obj 4 ["whole"] [.int (u + v)] | _ => .non) (by rw [srcS_ap, eUn_ap, eVar_0, bind_ok, fl, bind_ok]; rfl) (by rw [thL_len]; omega) (fun d hd j => by
      obtain ⟨i, _, rfl⟩ := List.mem_map.mp hd
      have w := fun σ => whole_ap (P i) σ
      have mk := fun σ => make_held (P i).w σ
      show _ = Out.ok (D.obj 4 ["whole"] [.int (P i).w]) _
      generalize (σ ++ [Ob.ins 5 fs] ++ j : Sto) = σ
      generalize (P i).D = PD at *
      generalize (P i).w = W at *
      generalize D.obj 4 ["whole"] [.int W] = O at *
      simp [w, mk, -makeK_1]) (fun d hd => by obtain ⟨i, _, rfl⟩ := List.mem_map.mp hd; simp [Pt.D])
  rw [this]
  unfold hdL thL
  rw [List.map_map]; rfl
theorem shown_lc (n : Nat) (P : Nat → Pt) (hn : n ≤ 4) (x : D) (h : fs.lookup ("pots" : Str) = some (potL n P)) :
    eFrz (eLC (srcS (eUn (oFld [5] "pots") (eVar 0))) [] (tgN 0) bTrue (eC (.dic [] []))) [some (.ref σ.length), some x] (σ ++ [.ins 5 fs]) = .ok (shL n) (σ ++ [.ins 5 fs]) := by
  have fl := fld_end (σ := σ) h
  have := lc_map (ix := []) (ρ := [some (.ref σ.length), some x]) (σ := σ ++ [.ins 5 fs]) (src := srcS (eUn (oFld [5] "pots") (eVar 0))) (fe := eC (.dic [] [])) (ds := thL n fun i => (P i).D)
    (fun d => .dic [] []) (by rw [srcS_ap, eUn_ap, eVar_0, bind_ok, fl, bind_ok]; rfl) (by rw [thL_len]; omega) (fun d hd j => eC_ap ..) (fun d hd => cl_dic0)
  rw [this]
  unfold shL thL
  rw [List.map_map]; rfl
theorem noneO_ex (n : Nat) (x : Xn) (σ : Sto) : noneO n (.ex x σ) = .ex x σ := nr rfl
theorem frzO_exE (x : Xn) (a : Ob) (σ : Sto) : frzO σ (.ex x (σ ++ [a])) = .ex x σ := by unfold frzO; dsimp only; rw [if_pos (by simp)]
theorem mk_book {n : Nat} {F : Nat → D} {g : Nat → Bool} (T : Ths n F g) {σ : Sto} {x : D} (hx : lsOf (σ ++ [.ins 5 []]) x = some (thL n F)) (hs : seqOf (σ ++ [.ins 5 []]) x = some (thL n F)) (P : Nat → Pt) (hP : fb g n 0 = none → thL n F = thL n fun i => (P i).D) :
    frzO σ (makeK 5 2 f_Book___init__ [x] σ) = match fb g n 0 with | none => .ok (bkD n P) σ | some j => .ex ⟨2 + 100 * (j + 1)⟩ σ := by
  have ck := checked_ap T hx hs
  rw [makeK_1]
  cases hb : fb g n 0 with
  | some j =>
    rw [hb] at ck
    have e : f_Book___init__ [.ref σ.length, x] (σ ++ [.ins 5 []]) = .ex ⟨2 + 100 * (j + 1)⟩ (σ ++ [.ins 5 []]) := by
      unfold f_Book___init__ g_Book___init__
      simp [ck, -sIf_ap]
    rw [e, noneO_ex, frzO_exE]
  | none =>
    rw [hb] at ck
    rw [hP hb] at ck
    have ck' : f_checked_pots [x] (σ ++ [.ins 5 []]) = .ok (potL n P) (σ ++ [.ins 5 []]) := ck
    have p1 : ∀ ρ d, putK2 ρ [5] "pots" d (.ref σ.length) (σ ++ [.ins 5 []]) = .ok (.nx ρ) (σ ++ [.ins 5 [("pots", d)]]) := fun ρ d => putK2_end rfl (by decide)
    have p2 : ∀ ρ d d0, putK2 ρ [5] "day" d (.ref σ.length) (σ ++ [.ins 5 [("pots", d0)]]) = .ok (.nx ρ) (σ ++ [.ins 5 [("pots", d0), ("day", d)]]) := fun ρ d d0 => putK2_end rfl (by simp)
    have p3 : ∀ ρ d d0 d1, putK2 ρ [5] "claims" d (.ref σ.length) (σ ++ [.ins 5 [("pots", d0), ("day", d1)]]) = .ok (.nx ρ) (σ ++ [.ins 5 [("pots", d0), ("day", d1), ("claims", d)]]) := fun ρ d d0 d1 => putK2_end rfl (by simp)
    have p4 : ∀ ρ d d0 d1 d2, putK2 ρ [5] "shown" d (.ref σ.length) (σ ++ [.ins 5 [("pots", d0), ("day", d1), ("claims", d2)]]) = .ok (.nx ρ) (σ ++ [.ins 5 [("pots", d0), ("day", d1), ("claims", d2), ("shown", d)]]) := fun ρ d d0 d1 d2 => putK2_end rfl (by simp)
    have h1 := held_lc (σ := σ) (fs := [("pots", potL n P), ("day", .int 0)]) n P T.le x rfl
    have h2 := shown_lc (σ := σ) (fs := [("pots", potL n P), ("day", .int 0), ("claims", hdL n P)]) n P T.le x rfl
    have e : f_Book___init__ [.ref σ.length, x] (σ ++ [.ins 5 []]) = .ok .non (σ ++ [.ins 5 [("pots", potL n P), ("day", .int 0), ("claims", hdL n P), ("shown", shL n)]]) := by
      unfold f_Book___init__ g_Book___init__
      generalize potL n P = PL at *
      generalize hdL n P = HL at *
      generalize shL n = SL at *
      simp [ck', p1, p2, p3, p4, h1, h2, -eFrz_ap, -sIf_ap]
    rw [e, noneO_ok, frzO_ins (by simp)]
    rfl
end

section
variable (n : Nat) (P : Nat → Pt) (σ : Sto)
theorem bk_ins : insOf σ (bkD n P) = some (5, ([("pots", potL n P), ("day", .int 0), ("claims", hdL n P), ("shown", shL n)] : List (Str × D))) := insOf_obj rfl
theorem bk_pots : oFld [5] "pots" (bkD n P) σ = .ok (potL n P) σ := oFld_ap (bk_ins ..) rfl rfl
theorem bk_day : oFld [5] "day" (bkD n P) σ = .ok (.int 0) σ := oFld_ap (bk_ins ..) rfl rfl
theorem bk_claims : oFld [5] "claims" (bkD n P) σ = .ok (hdL n P) σ := oFld_ap (bk_ins ..) rfl rfl
theorem bk_shown : oFld [5] "shown" (bkD n P) σ = .ok (shL n) σ := oFld_ap (bk_ins ..) rfl rfl
theorem bk_mth (k : Nat) (m : Str) (fn : List D → M D) (fs : M (List D)) (hm : ([("pots", potL n P), ("day", .int 0), ("claims", hdL n P), ("shown", shL n)] : List (Str × D)).lookup m = none) : mthK [(5, fn)] k m fs (bkD n P) σ = (fs σ).bind (mthK2 k fn (bkD n P)) := mthK_ap (bk_ins ..) rfl hm
theorem len_potL : oLen [potL n P] σ = .ok (.int n) σ := by unfold potL; rw [oLen_lst, thL_len]
theorem hd_ins (p : Pt) : insOf σ (hdD p) = some (4, ([("whole", .int p.w)] : List (Str × D))) := insOf_obj rfl
theorem hd_whole (p : Pt) : oFld [3, 4] "whole" (hdD p) σ = .ok (.int p.w) σ := oFld_ap (hd_ins ..) rfl rfl
theorem hd_mtold (p : Pt) (fs : M (List D)) : mthK [(4, f_Held_told)] 1 "told" fs (hdD p) σ = (fs σ).bind (mthK2 1 f_Held_told (hdD p)) := mthK_ap (hd_ins ..) rfl rfl
theorem hd_mcomes (p : Pt) (fs : M (List D)) : mthK [(4, f_Held_comes)] 3 "comes" fs (hdD p) σ = (fs σ).bind (mthK2 3 f_Held_comes (hdD p)) := mthK_ap (hd_ins ..) rfl rfl
theorem hd_told (p : Pt) : f_Held_told [hdD p] σ = .ok (.tup [.str "held"]) σ := by unfold f_Held_told g_Held_told; simp
theorem hd_comes (p : Pt) (y z : D) : f_Held_comes [hdD p, y, z] σ = .ok (.tup [.int 0, .int 0, .int p.w]) σ := by
  have h := fun σ => hd_whole σ p
  unfold f_Held_comes g_Held_comes
  generalize hdD p = H at *
  simp [h]
end
section
variable {n : Nat} {P : Nat → Pt} {i : Nat}
theorem ix_hdL (hi : i < n) (σ : Sto) : oIx (hdL n P) (.int i) σ = .ok (hdD (P i)) σ := oIx_lst (atI_nat (by simp [hi]))
theorem ix_shL (hi : i < n) (σ : Sto) : oIx (shL n) (.int i) σ = .ok (.dic [] []) σ := oIx_lst (atI_nat (by simp [hi]))
theorem ix_potL (hi : i < n) (σ : Sto) : oIx (potL n P) (.int i) σ = .ok (P i).D σ := oIx_lst (atI_nat (thL_at _ hi))
theorem check_ap (hi : i < n) (σ : Sto) : f_Book_check_pot [bkD n P, .int i] σ = .ok .non σ := by
  have h1 := fun σ => bk_pots n P σ
  have h2 := fun σ => len_potL n P σ
  have h3 : ∀ σ, f_is_between [.int i, .int 0, .int ((n : Int) - 1)] σ = .ok (.bl true) σ := fun σ => by
    rw [btw_ap rfl]
    have : bd (.int i) 0 ((n : Int) - 1) = true := by simp [bd]; omega
    rw [this]
  unfold f_Book_check_pot g_Book_check_pot
  generalize bkD n P = B at *
  generalize potL n P = PL at *
  simp [h1, h2, h3]
theorem mcheck (hi : i < n) (fs : M (List D)) (σ : Sto) : mthK [(5, f_Book_check_pot)] 2 "check_pot" fs (bkD n P) σ = (fs σ).bind (mthK2 2 f_Book_check_pot (bkD n P)) := bk_mth n P σ _ _ _ _ rfl
theorem told_ap (hi : i < n) (σ : Sto) : f_Book_told [bkD n P, .int i] σ = .ok (.tup [.str "held"]) σ := by
  have h1 := fun σ => check_ap (P := P) hi σ
  have h2 := fun fs σ => mcheck (P := P) hi fs σ
  have h3 := fun σ => bk_claims n P σ
  have h4 := fun σ => ix_hdL (P := P) hi σ
  have h5 := fun fs σ => hd_mtold σ (P i) fs
  have h6 := fun σ => hd_told σ (P i)
  unfold f_Book_told g_Book_told
  generalize bkD n P = B at *
  generalize hdL n P = HL at *
  generalize hdD (P i) = H at *
  simp [h1, h2, h3, h4, h5, h6]
theorem due_ap (hi : i < n) (σ : Sto) : f_Book_due_of [bkD n P, .int i] σ = .ok (.tup [.int 0, .int 0, .int (P i).w]) σ := by
  have h1 := fun σ => check_ap (P := P) hi σ
  have h2 := fun fs σ => mcheck (P := P) hi fs σ
  have h3 := fun σ => bk_claims n P σ
  have h4 := fun σ => ix_hdL (P := P) hi σ
  have h5 := fun fs σ => hd_mcomes σ (P i) fs
  have h6 := fun σ y z => hd_comes σ (P i) y z
  have h7 := fun σ => bk_day n P σ
  have h8 := fun σ => bk_shown n P σ
  have h9 := fun σ => ix_shL hi σ
  unfold f_Book_due_of g_Book_due_of
  generalize bkD n P = B at *
  generalize hdL n P = HL at *
  generalize shL n = SL at *
  generalize hdD (P i) = H at *
  simp [h1, h2, h3, h4, h5, h6, h7, h8, h9]
theorem dcp_0 (σ : Sto) : oDcp [.dic [] []] σ = .ok (.dic [] []) σ := nr rfl
theorem shown_ap (hi : i < n) (σ : Sto) : f_Book_shown_for [bkD n P, .int i] σ = .ok (.dic [] []) σ := by
  have h1 := fun σ => check_ap (P := P) hi σ
  have h2 := fun fs σ => mcheck (P := P) hi fs σ
  have h8 := fun σ => bk_shown n P σ
  have h9 := fun σ => ix_shL hi σ
  have hc := cl_dic0
  unfold f_Book_shown_for g_Book_shown_for
  generalize bkD n P = B at *
  generalize shL n = SL at *
  simp [h1, h2, h8, h9, dcp_0, hc]
theorem today_ap (σ : Sto) : f_Book_today [bkD n P] σ = .ok (.int 0) σ := by
  have h7 := fun σ => bk_day n P σ
  unfold f_Book_today g_Book_today
  generalize bkD n P = B at *
  simp [h7]
theorem made_ap (σ : Sto) : f_Book_made_of [bkD n P] σ = .ok (.ref σ.length) (σ ++ [.lst (thL n fun i => (P i).D)]) := by
  have h7 := fun σ => bk_pots n P σ
  have h8 : ∀ σ, oList [potL n P] σ = .ok (.ref σ.length) (σ ++ [.lst (thL n fun i => (P i).D)]) := fun σ => nr rfl
  unfold f_Book_made_of g_Book_made_of
  generalize bkD n P = B at *
  generalize potL n P = PL at *
  simp [h7, h8]
end

theorem oSum_ints (l : List Int) (σ : Sto) : oSum [.lst (l.map D.int)] σ = .ok (.int l.sum) σ := by
  unfold oSum; simp
@[simp] theorem eDnew_ap (ρ : Ev) (σ : Sto) : eDnew ρ σ = .ok (.ref σ.length) (σ ++ [.dic []]) := nr rfl
@[simp] theorem eMethD_ap (o : D → List D → M D) (f : Ev → M D) (fs : Ev → M (List D)) (ρ : Ev) (σ : Sto) : eMethD o f fs ρ σ = (f ρ σ).bind (methDK o (fs ρ)) := nr rfl
noncomputable abbrev coB : Ev → M Fl := (sFor (srcS (eTup (aCons (eC (.int 0)) (aCons (eC (.int 1)) aNil)))) (tgN 5) (sIf (eT (eBin oEq (eBin oIx (eVar 4) (eVar 5)) (eVar 1))) (sAug (fun a b => a + b) 2 (eBin oIx (eMth [(5, f_Book_due_of)] 2 "due_of" (eVar 0) (aCons (eVar 3) aNil)) (eVar 5))) sNil))
section
variable {n : Nat} {P : Nat → Pt} {i : Nat}
theorem mdue (fs : M (List D)) (σ : Sto) : mthK [(5, f_Book_due_of)] 2 "due_of" fs (bkD n P) σ = (fs σ).bind (mthK2 2 f_Book_due_of (bkD n P)) := bk_mth n P σ _ _ _ _ rfl
theorem pi0 (p : Pt) (σ : Sto) : oIx p.D (.int 0) σ = .ok (.int p.l) σ := by unfold Pt.D; simp
theorem pi1 (p : Pt) (σ : Sto) : oIx p.D (.int 1) σ = .ok (.int p.r) σ := by unfold Pt.D; simp
theorem pi2 (p : Pt) (σ : Sto) : oIx p.D (.int 2) σ = .ok (.int p.u) σ := by unfold Pt.D; simp
theorem pi3 (p : Pt) (σ : Sto) : oIx p.D (.int 3) σ = .ok (.int p.v) σ := by unfold Pt.D; simp
theorem co_step (hi : i < n) (h : Int) (x5 : Option D) (σ : Sto) : ∃ y5, coB [some (bkD n P), some (.int h), some (.int 0), some (.int i), some (P i).D, x5] σ = .ok (.nx [some (bkD n P), some (.int h), some (.int 0), some (.int i), some (P i).D, y5]) σ := by
  have du := due_ap (P := P) hi
  have md := fun fs σ => mdue (n := n) (P := P) fs σ
  have i0 := fun σ => pi0 (P i) σ
  have i1 := fun σ => pi1 (P i) σ
  refine ⟨some (.int 1), ?_⟩
  unfold coB
  have sg : ∀ (o : Int → Int → Int) (f : Ev → M D) (x0 x1 x3 x4 x5 : Option D) (x : D), sAug o 2 f [x0, x1, some x, x3, x4, x5] σ = xsO [x0, x1, some x, x3, x4, x5] (augK o 2 [x0, x1, some x, x3, x4, x5] x) (f [x0, x1, some x, x3, x4, x5] σ) := fun o f x0 x1 x3 x4 x5 x => sAug_ap rfl
  generalize (P i).D = PD at *
  generalize bkD n P = B at *
  generalize (P i).w = w at *
  cases b1 : ((P i).l == h) <;> cases b2 : ((P i).r == h) <;> simp [i0, i1, b1, b2, md, du, sg]
theorem co_loop (hn : n ≤ 4) (h : Int) (σ : Sto) : ∀ (k i : Nat) (f : Nat) (x3 x4 x5 : Option D), i + k = n → f = 1001 - i → ∃ y3 y4 y5,
    loopN (nxE (potL n P)) (tgT 2 (tgCons (tgN 3) (tgCons (tgN 4) tgNil))) coB f i [some (bkD n P), some (.int h), some (.int 0), x3, x4, x5] σ = .ok (.nx [some (bkD n P), some (.int h), some (.int 0), y3, y4, y5]) σ := by
  have hx : lsOf σ (potL n P) = some (thL n fun i => (P i).D) := rfl
  intro k
  induction k with
  | zero =>
    intro i f x3 x4 x5 hik hf
    obtain rfl : i = n := by omega
    refine ⟨x3, x4, x5, ?_⟩
    obtain ⟨f', rfl⟩ : ∃ f', f = f' + 1 := ⟨f - 1, by omega⟩
    have e := nxE_fin hx
    rw [thL_len] at e
    exact loopN_end e
  | succ k ih =>
    intro i f x3 x4 x5 hik hf
    have hi : i < n := by omega
    obtain ⟨f', rfl⟩ : ∃ f', f = f' + 1 := ⟨f - 1, by omega⟩
    obtain ⟨y5, e⟩ := co_step (P := P) hi h x5 σ
    obtain ⟨z3, z4, z5, e2⟩ := ih (i + 1) f' (some (.int i)) (some (P i).D) y5 (by omega) (by omega)
    refine ⟨z3, z4, z5, ?_⟩
    rw [loopN_step (nxE_of hx (thL_at _ hi)) (ρ1 := [some (bkD n P), some (.int h), some (.int 0), some (.int i), some (P i).D, x5]) (nr rfl), e, bind_ok, loopK_nx, e2]
theorem coin_ap (hn : n ≤ 4) (h : Int) (hh : 0 ≤ h ∧ h ≤ 3) (σ : Sto) : f_Book_coin_of [bkD n P, .int h] σ = .ok (.int 0) σ := by
  have bp := fun σ => bk_pots n P σ
  obtain ⟨y3, y4, y5, e⟩ := co_loop (P := P) hn h σ n 0 1001 none none none (by omega) (by omega)
  have hd : ∀ σ, f_is_hand [.int h] σ = .ok (.bl true) σ := fun σ => by
    rw [hand_ap rfl]
    have : bd (.int h) 0 3 = true := by simp [bd]; exact hh
    rw [this]
  have ek : ∀ σ, enumK (potL n P) σ = .ok (nxE (potL n P)) σ := fun σ => enumK_of (xs := thL n fun i => (P i).D) rfl
  have fk : ∀ (tg : D → Ev → Option Ev) (body : Ev → M Fl) (ρ : Ev) (nx : NX), forNK tg body ρ nx = loopN nx tg body 1001 0 ρ := fun _ _ _ _ => rfl
  unfold coB at e
  unfold f_Book_coin_of g_Book_coin_of
  generalize bkD n P = B at *
  generalize potL n P = PL at *
  simp [hd, bp, ek, fk, e, -sFor_ap]
theorem over_ap (hn : n ≤ 4) (σ : Sto) : f_Book_is_over [bkD n P] σ = .ok (.bl ((List.range n).all fun i => (P i).w == 0)) σ := by
  have bp := fun σ => bk_pots n P σ
  have lp := fun σ => len_potL n P σ
  have rk : ∀ σ, rngK (.int (n : Int)) σ = .ok (.seq (rangeD n)) σ := fun σ => by have := rngK_ap (σ := σ) (j := (n : Int)) (by omega) (by omega); simpa using this
  have lc : eFrz (eLC (srcR (eCall oLen (aCons (eUn (oFld [5] "pots") (eVar 0)) aNil))) [0] (tgN 0) bTrue (eBin oEq (eBin oIx (eMth [(5, f_Book_due_of)] 2 "due_of" (eVar 1) (aCons (eVar 0) aNil)) (eC (.int 2))) (eC (.int 0)))) [some (bkD n P)] σ = .ok (.lst ((List.range n).map fun i => D.bl ((P i).w == 0))) σ := by
    have := lc_map (ix := [0]) (ρ := [some (bkD n P)]) (σ := σ) (src := srcR (eCall oLen (aCons (eUn (oFld [5] "pots") (eVar 0)) aNil))) (fe := eBin oEq (eBin oIx (eMth [(5, f_Book_due_of)] 2 "due_of" (eVar 1) (aCons (eVar 0) aNil)) (eC (.int 2))) (eC (.int 0))) (ds := rangeD n)
      (fun d => match d with | .int i => .bl ((P i.toNat).w == 0) | _ => .non) (by
        generalize bkD n P = B at *
        generalize potL n P = PL at *
        simp [bp, lp, rk]) (by unfold rangeD; simp; omega) (fun d hd j => by
        unfold rangeD at hd
        obtain ⟨i, hi, rfl⟩ := List.mem_map.mp hd
        have du := due_ap (P := P) (List.mem_range.mp hi)
        have md := fun fs σ => mdue (n := n) (P := P) fs σ
        generalize (σ ++ j : Sto) = σ
        simp only [List.map_cons, List.map_nil, List.getElem?_cons_zero, Option.getD_some, Int.toNat_natCast]
        generalize bkD n P = B at *
        generalize (P i).w = w at *
        simp [du, md]) (fun d hd => by unfold rangeD at hd; obtain ⟨i, hi, rfl⟩ := List.mem_map.mp hd; simp)
    rw [this]
    unfold rangeD
    rw [List.map_map]
    congr 2
  have al := oAll_map (σ := σ) (f := fun i => (P i).w == 0) (l := List.range n)
  unfold f_Book_is_over g_Book_is_over
  generalize bkD n P = B at *
  generalize ((List.range n).map fun i => D.bl ((P i).w == 0)) = LL at *
  generalize ((List.range n).all fun i => (P i).w == 0) = bb at *
  simp [lc, al, -eFrz_ap]
end

/-- a comprehension over a list that may change, and does not -/
theorem lcL_go {fe : Ev → M D} {ds : List D} {rest : Ev} {σ0 : Sto} {n : Nat} (y : D → D) (hn : lstAt σ0 n = some ds) (step : ∀ d ∈ ds, ∀ j, fe (some d :: rest) (σ0 ++ j) = .ok (y d) (σ0 ++ j)) (hl : ds.length ≤ 1000) :
    ∀ (k i : Nat) (o : Option D) (ys : List D), ds.length < k + i → i ≤ ds.length → ys.length ≤ i →
      lcLoop (.lref n) σ0.length (tgN 0) bTrue fe k i (o :: rest) (σ0 ++ [.lst ys]) = .ok () (σ0 ++ [.lst (ys ++ (ds.drop i).map y)]) := by
  intro k
  induction k with
  | zero => intro i o ys h1 h2; omega
  | succ k ih =>
    intro i o ys h1 h2 hy
    have en : lstAt (σ0 ++ [.lst ys]) n = some ds := by
      have z := lstAt_some hn
      have hlt := (List.getElem?_eq_some_iff.mp z).1
      unfold lstAt
      rw [List.getElem?_append_left hlt, z]
    have ex : (Src.lref n).nx i (σ0 ++ [.lst ys]) = some ds[i]? := by show (lstAt _ n).map _ = _; rw [en]; rfl
    unfold lcLoop
    rw [ex]
    cases e : ds[i]? with
    | none =>
      have hi : ds.length ≤ i := List.getElem?_eq_none_iff.mp e
      rw [List.drop_eq_nil_of_le hi]; simp
    | some d =>
      obtain ⟨hi, ed⟩ := List.getElem?_eq_some_iff.mp e
      have hd : ds.drop i = d :: ds.drop (i + 1) := by rw [← ed]; exact List.drop_eq_getElem_cons hi
      have s2 := step d (by rw [← ed]; exact List.getElem_mem hi) [.lst ys]
      show bnd (nox (bTrue (some d :: rest))) _ _ = _
      rw [bnd_ap, nox_ok (show bTrue (some d :: rest) (σ0 ++ [.lst ys]) = .ok true (σ0 ++ [.lst ys]) from rfl), bind_ok]
      dsimp only [List.set]
      rw [if_pos rfl, bnd_ap, nox_ok s2, bind_ok, bnd_ap, append_end (by omega), bind_ok, ih (i + 1) (some d) (ys ++ [y d]) (by omega) (by omega) (by simp; omega), hd]
      simp
theorem lcL_map {src : Ev → M Src} {ix : List Nat} {fe : Ev → M D} {ds : List D} {ρ : Ev} {σ : Sto} {n : Nat} (y : D → D) (hs : src ρ σ = .ok (.lref n) σ) (hn : lstAt σ n = some ds) (hl : ds.length ≤ 1000)
    (step : ∀ d ∈ ds, ∀ j, fe (some d :: (ix.map fun i => (ρ[i]?).getD none)) (σ ++ j) = .ok (y d) (σ ++ j)) (hc : ∀ d ∈ ds, cl (y d) = true) :
    eFrz (eLC src ix (tgN 0) bTrue fe) ρ σ = .ok (.lst (ds.map y)) σ := by
  show frzO σ (eLC src ix (tgN 0) bTrue fe ρ σ) = _
  have e : eLC src ix (tgN 0) bTrue fe ρ σ = .ok (.ref σ.length) (σ ++ [.lst (ds.map y)]) := by
    show bnd (src ρ) (lcK (tgN 0) bTrue fe (blkEv ix ρ)) σ = _
    rw [bnd_ap, hs, bind_ok]
    show bnd (lcLoop (.lref n) σ.length (tgN 0) bTrue fe 1001 0 (none :: (ix.map fun i => (ρ[i]?).getD none))) _ (σ ++ [.lst []]) = _
    rw [bnd_ap, lcL_go y hn step hl 1001 0 none [] (by omega) (by omega) (by simp), bind_ok]
    simp
  rw [e]
  have := frzO_lst (σ := σ) (j := []) (j' := []) (xs := ds.map y) (clL_all fun d hd => by obtain ⟨x, hx, rfl⟩ := List.mem_map.mp hd; exact hc x hx)
  simpa using this

theorem lstAt_app {σ j : Sto} {m : Nat} {L : List D} (h : lstAt σ m = some L) : lstAt (σ ++ j) m = some L := by
  have z := lstAt_some h
  have hlt := (List.getElem?_eq_some_iff.mp z).1
  unfold lstAt
  rw [List.getElem?_append_left hlt, z]
section
variable {n : Nat} {P : Nat → Pt}
abbrev pl (n : Nat) (P : Nat → Pt) : List D := thL n fun i => (P i).D
theorem eq_pl (hP : ∀ i, i < n → (P i).Ok) (σ : Sto) : eqL (eqD σ 7) (pl n P) (pl n P) = some true := eqL_self fun x hx => by
  obtain ⟨i, hi, rfl⟩ := List.mem_map.mp hx
  exact (th_pot (hP i (List.mem_range.mp hi))).eq σ
theorem ne_refs {σ : Sto} {a b : Nat} {L : List D} (ha : lstAt σ a = some L) (hb : lstAt σ b = some L) (he : eqL (eqD σ 7) L L = some true) : oNe (.ref a) (.ref b) σ = .ok (.bl false) σ := by
  have : eqD σ 8 (.ref a) (.ref b) = some true := by
    show eqK (eqD σ 7) (kd σ (.ref a)) (kd σ (.ref b)) = _
    have e1 : kd σ (.ref a) = .l L := by unfold kd; dsimp only; rw [ha]
    have e2 : kd σ (.ref b) = .l L := by unfold kd; dsimp only; rw [hb]
    rw [e1, e2]; exact he
  exact oNe_of this
theorem isl_ref {σ : Sto} {a : Nat} {L : List D} (ha : lstAt σ a = some L) : oIsB .list (.ref a) σ = .ok (.bl true) σ := by
  have := lstAt_some ha
  unfold oIsB isBT
  simp [this, ha]
theorem upd_step (σ : Sto) : oUpd (.ref σ.length) [.dic [] []] (σ ++ [.dic []]) = .ok .non (σ ++ [.dic []]) := by
  have e : (σ ++ [Ob.dic []])[σ.length]? = some (.dic []) := by simp
  unfold oUpd
  simp only [e]
  have d : dcOf (σ ++ [Ob.dic []]) (.dic [] []) = some [] := rfl
  rw [d]
  dsimp only
  rw [if_pos (by simp [apart, cap])]
  show Out.ok D.non ((σ ++ [Ob.dic []]).set σ.length (Ob.dic [])) = _
  rw [set_end]
theorem md_dic (o : D → List D → M D) (m : M (List D)) (σ : Sto) : methDK o m (.ref σ.length) (σ ++ [.dic []]) = (m (σ ++ [.dic []])).bind (o (.ref σ.length)) := by
  have d : dcOf (σ ++ [Ob.dic []]) (.ref σ.length) = some [] := by unfold dcOf; simp
  unfold methDK; rw [d]; rfl
noncomputable abbrev upB : Ev → M Fl := (sExp (eMethD oUpd (eVar 1) (aCons (eVar 2) aNil)))
theorem up_loop (B : D) (σ : Sto) : ∀ (l : List D) (x2 : Option D), (∀ d ∈ l, d = .dic [] []) → ∃ y2, loop (tgN 2) upB l [some B, some (.ref σ.length), x2] (σ ++ [.dic []]) = .ok (.nx [some B, some (.ref σ.length), y2]) (σ ++ [.dic []])
  | [], x2, _ => ⟨x2, by simp⟩
  | d :: l, x2, h => by
    obtain rfl := h d List.mem_cons_self
    obtain ⟨y2, e⟩ := up_loop B σ l (some (.dic [] [])) fun d hd => h d (List.mem_cons_of_mem _ hd)
    refine ⟨y2, ?_⟩
    have st : upB [some B, some (.ref σ.length), some (.dic [] [])] (σ ++ [.dic []]) = .ok (.nx [some B, some (.ref σ.length), some (.dic [] [])]) (σ ++ [.dic []]) := by
      have u := upd_step σ
      have m := fun o f => md_dic o f σ
      unfold upB
      rw [sExp_ap, eMethD_ap, eVar_S, eVar_0, bind_ok, m, aCons_ap, eVar_S, eVar_S, eVar_0, bind_ok, aConsK_ap, aNil_ap, bind_ok, consK_ap, bind_ok, u, xsO_ok, expK_ap]
    rw [loop_tgN]
    simp only [List.set_cons_succ, List.set_cons_zero]
    rw [st, bind_ok, loopK_nx, e]
theorem srt_0 (σ : Sto) : oSrtA [.ref σ.length] (σ ++ [.dic []]) = .ok (.ref (σ ++ [Ob.dic []]).length) (σ ++ [.dic []] ++ [.lst []]) := by
  have l : lsOf (σ ++ [Ob.dic []]) (.ref σ.length) = none := by unfold lsOf lstAt; simp
  have d : dcOf (σ ++ [Ob.dic []]) (.ref σ.length) = some [] := by unfold dcOf; simp
  unfold oSrtA
  simp only [l]
  unfold oSortedD
  simp only [d]
  have k : keysI [] = some [] := by simp [keysI]
  have t : srtI [] = [] := by simp [srtI]
  rw [k]
  dsimp only
  rw [if_pos (by decide), t]
  rfl
theorem allshown_ap (σ : Sto) : f_Book_all_shown [bkD n P] σ = .ok (.lst []) σ := by
  obtain ⟨y2, e⟩ := up_loop (bkD n P) σ ((List.range n).map fun _ => D.dic [] []) none (fun d hd => by obtain ⟨_, _, rfl⟩ := List.mem_map.mp hd; rfl)
  have bs := fun σ => bk_shown n P σ
  have ss : ∀ σ, seqK2 (shL n) σ = .ok (.seq ((List.range n).map fun _ => D.dic [] [])) σ := fun σ => nr rfl
  have so := srt_0 σ
  have fz : frzO (σ ++ [.dic []]) (.ok (.ref (σ ++ [Ob.dic []]).length) (σ ++ [.dic []] ++ [.lst []])) = .ok (.lst []) (σ ++ [.dic []]) := by
    have := frzO_lst (σ := σ ++ [.dic []]) (j := []) (j' := []) (xs := []) (by simp)
    rwa [List.append_nil] at this
  have fe : frzO σ (.ok (.lst []) (σ ++ [.dic []])) = .ok (.lst []) σ := frzO_end (by simp)
  unfold upB at e
  unfold f_Book_all_shown g_Book_all_shown
  generalize bkD n P = B at *
  generalize shL n = SL at *
  generalize ((List.range n).map fun _ => D.dic [] []) = DL at *
  simp only [hide_eq, frz_ap, run_ap, sSeq_ap, sSet_ap, eDnew_ap, bind_ok, xsO_ok, setK_ap, seqK_nx, List.map_cons, List.map_nil, List.length_cons, List.length_nil, List.cons_append, List.nil_append, List.set_cons_succ, List.set_cons_zero, Nat.reduceAdd, Nat.reduceSub, List.replicate, sFor_ap, srcS_ap, eUn_ap, eVar_0, bs, ss, forK_seq, e, sRet_ap, eFrz_ap, eCall_ap, aCons_ap, eVar_S, aConsK_ap, aNil_ap, consK_ap, so, fz, retK_ap, runO_rt, fe]
end

section
variable {n : Nat} {P : Nat → Pt} {m : Nat} {σ : Sto}
theorem mmade (fs : M (List D)) (σ : Sto) : mthK [(5, f_Book_made_of)] 1 "made_of" fs (bkD n P) σ = (fs σ).bind (mthK2 1 f_Book_made_of (bkD n P)) := bk_mth n P σ _ _ _ _ rfl
theorem mtoday (fs : M (List D)) (σ : Sto) : mthK [(5, f_Book_today)] 1 "today" fs (bkD n P) σ = (fs σ).bind (mthK2 1 f_Book_today (bkD n P)) := bk_mth n P σ _ _ _ _ rfl
theorem mall (fs : M (List D)) (σ : Sto) : mthK [(5, f_Book_all_shown)] 1 "all_shown" fs (bkD n P) σ = (fs σ).bind (mthK2 1 f_Book_all_shown (bkD n P)) := bk_mth n P σ _ _ _ _ rfl
theorem mtold (fs : M (List D)) (σ : Sto) : mthK [(5, f_Book_told)] 2 "told" fs (bkD n P) σ = (fs σ).bind (mthK2 2 f_Book_told (bkD n P)) := bk_mth n P σ _ _ _ _ rfl
theorem mshown (fs : M (List D)) (σ : Sto) : mthK [(5, f_Book_shown_for)] 2 "shown_for" fs (bkD n P) σ = (fs σ).bind (mthK2 2 f_Book_shown_for (bkD n P)) := bk_mth n P σ _ _ _ _ rfl
theorem mcoin (fs : M (List D)) (σ : Sto) : mthK [(5, f_Book_coin_of)] 2 "coin_of" fs (bkD n P) σ = (fs σ).bind (mthK2 2 f_Book_coin_of (bkD n P)) := bk_mth n P σ _ _ _ _ rfl
theorem mover (fs : M (List D)) (σ : Sto) : mthK [(5, f_Book_is_over)] 1 "is_over" fs (bkD n P) σ = (fs σ).bind (mthK2 1 f_Book_is_over (bkD n P)) := bk_mth n P σ _ _ _ _ rfl
theorem be1 (hP : ∀ i, i < n → (P i).Ok) (h0 : lstAt σ m = some (pl n P)) (r : Ev) : (eT (eBin oNe (eMth [(5, f_Book_made_of)] 1 "made_of" (eVar 0) aNil) (eVar 1))) (some (bkD n P) :: some (.ref m) :: r) σ = .ok false (σ ++ [.lst (pl n P)]) := by
  have ma : ∀ σ, f_Book_made_of [bkD n P] σ = .ok (.ref σ.length) (σ ++ [.lst (pl n P)]) := fun σ => made_ap σ
  have mm := fun fs σ => mmade (n := n) (P := P) fs σ
  have ne := ne_refs (σ := σ ++ [.lst (pl n P)]) (a := σ.length) (b := m) (lstAt_end _) (lstAt_app h0) (eq_pl hP _)
  generalize bkD n P = B at *
  generalize pl n P = L at *
  simp [ma, mm, ne]
theorem be2 (r : Ev) : (bNot (eT (eUn (oIsB .list) (eMth [(5, f_Book_made_of)] 1 "made_of" (eVar 0) aNil)))) (some (bkD n P) :: r) σ = .ok false (σ ++ [.lst (pl n P)]) := by
  have ma : ∀ σ, f_Book_made_of [bkD n P] σ = .ok (.ref σ.length) (σ ++ [.lst (pl n P)]) := fun σ => made_ap σ
  have mm := fun fs σ => mmade (n := n) (P := P) fs σ
  have ne := isl_ref (σ := σ ++ [.lst (pl n P)]) (a := σ.length) (lstAt_end _)
  generalize bkD n P = B at *
  generalize pl n P = L at *
  simp [ma, mm, ne]
theorem ne_nil (σ : Sto) : oNe (.lst []) (.lst []) σ = .ok (.bl false) σ := by
  have : eqD σ 8 (.lst []) (.lst []) = some true := rfl
  exact oNe_of this
theorem be3 (r : Ev) : (bOr (eT (eBin oNe (eMth [(5, f_Book_today)] 1 "today" (eVar 0) aNil) (eC (.int 0)))) (eT (eBin oNe (eMth [(5, f_Book_all_shown)] 1 "all_shown" (eVar 0) aNil) (eLv aNil)))) (some (bkD n P) :: r) σ = .ok false σ := by
  have h1 := fun σ => today_ap (n := n) (P := P) σ
  have h2 := fun fs σ => mtoday (n := n) (P := P) fs σ
  have h3 := fun σ => allshown_ap (n := n) (P := P) σ
  have h4 := fun fs σ => mall (n := n) (P := P) fs σ
  generalize bkD n P = B at *
  simp [h1, h2, h3, h4, ne_nil]
noncomputable abbrev bgB : Ev → M Fl := (sIf (bOr (eT (eBin oNe (eMth [(5, f_Book_told)] 2 "told" (eVar 0) (aCons (eVar 2) aNil)) (eTup (aCons (eC (.str "held")) aNil)))) (bOr (eT (eBin oNe (eMth [(5, f_Book_due_of)] 2 "due_of" (eVar 0) (aCons (eVar 2) aNil)) (eTup (aCons (eC (.int 0)) (aCons (eC (.int 0)) (aCons (eBin oAdd (eBin oIx (eBin oIx (eVar 1) (eVar 2)) (eC (.int 2))) (eBin oIx (eBin oIx (eVar 1) (eVar 2)) (eC (.int 3)))) aNil)))))) (eT (eBin oNeK (eMth [(5, f_Book_shown_for)] 2 "shown_for" (eVar 0) (aCons (eVar 2) aNil)) (eC (.dic [] [])))))) (sRet (eC (.bl false))) sNil)
theorem ne_held (σ : Sto) : oNe (.tup [.str "held"]) (.tup [.str "held"]) σ = .ok (.bl false) σ := by
  have : eqD σ 8 (.tup [.str "held"]) (.tup [.str "held"]) = some true := by
    show eqL (eqD σ 7) _ _ = some true
    exact eqL_self fun x hx => sc_eq (by simp at hx; rw [hx]; rfl) 7 σ
  exact oNe_of this
theorem ne_due (w : Int) (σ : Sto) : oNe (.tup [.int 0, .int 0, .int w]) (.tup [.int 0, .int 0, .int w]) σ = .ok (.bl false) σ := by
  have : eqD σ 8 (.tup [.int 0, .int 0, .int w]) (.tup [.int 0, .int 0, .int w]) = some true := by
    show eqL (eqD σ 7) _ _ = some true
    exact eqL_self fun x hx => sc_eq (by simp at hx; rcases hx with rfl | rfl <;> rfl) 7 σ
  exact oNe_of this
theorem nek0 (σ : Sto) : oNeK (.dic [] []) (.dic [] []) σ = .ok (.bl false) σ := nr rfl
theorem bg_step {i : Nat} (hi : i < n) (h0 : lstAt σ m = some (pl n P)) (x3 : Option D) : bgB [some (bkD n P), some (.ref m), some (.int i), x3] σ = .ok (.nx [some (bkD n P), some (.ref m), some (.int i), x3]) σ := by
  have h1 := fun σ => told_ap (P := P) hi σ
  have h2 := fun fs σ => mtold (n := n) (P := P) fs σ
  have h3 := fun σ => due_ap (P := P) hi σ
  have h4 := fun fs σ => mdue (n := n) (P := P) fs σ
  have h5 := fun σ => shown_ap (P := P) hi σ
  have h6 := fun fs σ => mshown (n := n) (P := P) fs σ
  have h7 : oIx (.ref m) (.int i) σ = .ok (P i).D σ := by
    unfold oIx
    have s : seqOf σ (.ref m) = some (pl n P) := h0
    simp only [s, atI_nat (thL_at (fun i => (P i).D) hi)]
  have h8 := fun σ => pi2 (P i) σ
  have h9 := fun σ => pi3 (P i) σ
  have hw : (P i).w = (P i).u + (P i).v := rfl
  rw [hw] at h3
  unfold bgB
  generalize (P i).D = PD at *
  generalize bkD n P = B at *
  simp [h1, h2, h3, h4, h5, h6, h7, h8, h9, ne_held, ne_due, nek0]
theorem bg_loop (hn : n ≤ 4) (h0 : lstAt σ m = some (pl n P)) (x3 : Option D) : ∀ (k i : Nat) (x2 : Option D), i + k = n → ∃ y2, loop (tgN 2) bgB ((List.range' i k).map fun (k : Nat) => D.int k) [some (bkD n P), some (.ref m), x2, x3] σ = .ok (.nx [some (bkD n P), some (.ref m), y2, x3]) σ := by
  intro k
  induction k with
  | zero => intro i x2 _; exact ⟨x2, by simp⟩
  | succ k ih =>
    intro i x2 h
    have st := bg_step (σ := σ) (i := i) (by omega) h0 x3
    obtain ⟨y2, e⟩ := ih (i + 1) (some (.int i)) (by omega)
    refine ⟨y2, ?_⟩
    rw [List.range'_succ, List.map_cons, loop_tgN]
    simp only [List.set_cons_succ, List.set_cons_zero]
    rw [st, bind_ok, loopK_nx, e]
noncomputable abbrev cgB : Ev → M Fl := (sIf (eT (eBin oNe (eMth [(5, f_Book_coin_of)] 2 "coin_of" (eVar 0) (aCons (eVar 3) aNil)) (eC (.int 0)))) (sRet (eC (.bl false))) sNil)
theorem cg_step (hn : n ≤ 4) {h : Int} (hh : 0 ≤ h ∧ h ≤ 3) (x1 x2 : Option D) : cgB [some (bkD n P), x1, x2, some (.int h)] σ = .ok (.nx [some (bkD n P), x1, x2, some (.int h)]) σ := by
  have h1 := fun σ => coin_ap (P := P) hn h hh σ
  have h2 := fun fs σ => mcoin (n := n) (P := P) fs σ
  unfold cgB
  generalize bkD n P = B at *
  simp [h1, h2]
theorem cg_loop (hn : n ≤ 4) (x1 x2 : Option D) : ∀ (k i : Nat) (x3 : Option D), i + k = 4 → ∃ y3, loop (tgN 3) cgB ((List.range' i k).map fun (k : Nat) => D.int k) [some (bkD n P), x1, x2, x3] σ = .ok (.nx [some (bkD n P), x1, x2, y3]) σ := by
  intro k
  induction k with
  | zero => intro i x3 _; exact ⟨x3, by simp⟩
  | succ k ih =>
    intro i x3 h
    have st := cg_step (P := P) (σ := σ) hn (h := (i : Int)) (by omega) x1 x2
    obtain ⟨y3, e⟩ := ih (i + 1) (some (.int i)) (by omega)
    refine ⟨y3, ?_⟩
    rw [List.range'_succ, List.map_cons, loop_tgN]
    simp only [List.set_cons_succ, List.set_cons_zero]
    rw [st, bind_ok, loopK_nx, e]
theorem sum_lc (hn : n ≤ 4) (h0 : lstAt σ m = some (pl n P)) (B : D) (x2 x3 : Option D) : eFrz (eLC (srcS (eVar 1)) [] (tgN 0) bTrue (eBin oAdd (eBin oIx (eVar 0) (eC (.int 2))) (eBin oIx (eVar 0) (eC (.int 3))))) [some B, some (.ref m), x2, x3] σ = .ok (.lst (((List.range n).map fun i => (P i).w).map D.int)) σ := by
  have := lcL_map (ix := []) (ρ := [some B, some (.ref m), x2, x3]) (σ := σ) (src := srcS (eVar 1)) (fe := eBin oAdd (eBin oIx (eVar 0) (eC (.int 2))) (eBin oIx (eVar 0) (eC (.int 3)))) (ds := pl n P) (n := m)
    (fun d => match d with | .tup [_, _, .int u, .int v, _] => .int (u + v) | _ => .non) (by rw [srcS_ap, eVar_S, eVar_0, bind_ok]; unfold seqK2; dsimp only; rw [h0]) h0 (by rw [thL_len]; omega) (fun d hd j => by
      obtain ⟨i, _, rfl⟩ := List.mem_map.mp hd
      have h8 := fun σ => pi2 (P i) σ
      have h9 := fun σ => pi3 (P i) σ
      show _ = Out.ok (D.int ((P i).u + (P i).v)) _
      generalize (σ ++ j : Sto) = σ
      generalize (P i).D = PD at *
      simp [h8, h9]) (fun d hd => by obtain ⟨i, _, rfl⟩ := List.mem_map.mp hd; simp [Pt.D])
  rw [this]
  unfold pl thL
  rw [List.map_map, List.map_map]; rfl
theorem all_sum : ∀ (l : List Nat) (w : Nat → Int), (∀ i ∈ l, 0 ≤ w i) → (l.all fun i => w i == 0) = ((l.map w).sum == 0) ∧ 0 ≤ (l.map w).sum
  | [], w, _ => ⟨rfl, by simp⟩
  | i :: l, w, h => by
    obtain ⟨e1, e2⟩ := all_sum l w fun j hj => h j (List.mem_cons_of_mem _ hj)
    have hi := h i List.mem_cons_self
    refine ⟨?_, by rw [List.map_cons, List.sum_cons]; omega⟩
    rw [List.all_cons, e1, List.map_cons, List.sum_cons, Bool.eq_iff_iff]
    simp only [Bool.and_eq_true, beq_iff_eq]
    omega
theorem begun_ap (hn : n ≤ 4) (hP : ∀ i, i < n → (P i).Ok) (h0 : lstAt σ m = some (pl n P)) : f__law_begun [bkD n P, .ref m] σ = .ok (.bl true) σ := by
  have b1 := be1 hP h0 [none, none]
  have b2 := be2 (n := n) (P := P) (σ := σ ++ [.lst (pl n P)]) [some (.ref m), none, none]
  generalize hS : σ ++ [.lst (pl n P)] ++ [.lst (pl n P)] = S at *
  have hS0 : lstAt S m = some (pl n P) := by rw [← hS]; exact lstAt_app (lstAt_app h0)
  have b3 := be3 (n := n) (P := P) (σ := S) [some (.ref m), none, none]
  obtain ⟨y2, l1⟩ := bg_loop (σ := S) hn hS0 none n 0 none (by omega)
  obtain ⟨y3, l2⟩ := cg_loop (n := n) (P := P) (σ := S) hn (some (.ref m)) y2 4 0 none (by omega)
  rw [← rangeD_eq] at l1 l2
  have sm := sum_lc hn hS0 (bkD n P) y2 y3
  have os := oSum_ints ((List.range n).map fun i => (P i).w) S
  have ov := over_ap (P := P) hn S
  have mo := fun fs => mover (n := n) (P := P) fs S
  have ln : oLen [.ref m] S = .ok (.int n) S := by
    have s : seqOf S (.ref m) = some (pl n P) := hS0
    unfold oLen; simp only [s]; rw [thL_len]
  have rk : rngK (.int (n : Int)) S = .ok (.seq (rangeD n)) S := by have := rngK_ap (σ := S) (j := (n : Int)) (by omega) (by omega); simpa using this
  have rk4 : rngK (.int 4) S = .ok (.seq (rangeD 4)) S := by have := rngK_ap (σ := S) (j := (4 : Int)) (by omega) (by omega); simpa using this
  have as := (all_sum (List.range n) (fun i => (P i).w) fun i hi => by have := hP i (List.mem_range.mp hi); have a := this.u; have b := this.v; show 0 ≤ (P i).u + (P i).v; omega).1
  have fz : frzO σ (.ok (.bl true) S) = .ok (.bl true) σ := frzO_cl rfl (by rw [← hS]; simp)
  unfold bgB at l1
  unfold cgB at l2
  unfold f__law_begun g__law_begun
  rw [as] at ov
  generalize ((List.range n).map fun i => (P i).w) = ws at *
  generalize bkD n P = B at *
  rw [hide_eq, frz_ap, run_ap]
  show frzO σ (runO (sSeq _ _ [some B, some (.ref m), none, none] σ)) = _
  rw [sSeq_ap, sIf_ap, bOr_ap, b1, bind_ok, ifK_f, bOr_ap, b2, bind_ok, ifK_f, b3, xsO_ok, ifK_f, sNil_ap, bind_ok, seqK_nx]
  simp only [sSeq_ap, sFor_ap, srcR_ap, eCall_ap, aCons_ap, eVar_S, eVar_0, bind_ok, aConsK_ap, aNil_ap, consK_ap, ln, rk, xsO_ok, forK_seq, l1, seqK_nx, eC_ap, rk4, l2, sRet_ap, eBin_ap, eMth_ap, mo, mthK2_0, ov, binK_ap, sm, os, oEq_int, oEq_bl, beq_self_eq_true, retK_ap, runO_rt, fz]
end

noncomputable abbrev w1 : Ev → M Fl := (sSet 1 (eFn 2 f__law_cell_at [] (aCons (eVar 0) (aCons (eC (.int 0)) aNil))))
noncomputable abbrev w2 : Ev → M Fl := (sSet 2 (eLC (srcR (eBin oIx (eLv (aCons (eBin oMod (eBin oDiv (eVar 1) (eC (.int 3))) (eC (.int 4))) (aCons (eBin oMod (eBin oDiv (eVar 1) (eC (.int 3))) (eC (.int 5))) aNil))) (eBin oDiv (eBin oMod (eBin oDiv (eVar 1) (eC (.int 15))) (eC (.int 3))) (eC (.int 2))))) [0] (tgN 0) bTrue (eFn 1 f__law_pot [] (aCons (eFn 2 f__law_cell_at [] (aCons (eVar 1) (aCons (eBin oAdd (eC (.int 3)) (eVar 0)) aNil))) aNil))))
noncomputable abbrev w3 : Ev → M Fl := (sIf (bAnd (eT (eBin oGt (eBin oMod (eVar 1) (eC (.int 3))) (eC (.int 0)))) (eT (eBin oNe (eVar 2) (eLv aNil)))) (sSeq (sSet 3 (eBin oMod (eFn 2 f__law_cell_at [] (aCons (eVar 0) (aCons (eC (.int 1)) aNil))) (eCall oLen (aCons (eVar 2) aNil))))
  (sSetL (eFn 2 f__law_spoiled [] (aCons (eBin oIx (eVar 2) (eVar 3)) (aCons (eFn 2 f__law_cell_at [] (aCons (eVar 0) (aCons (eC (.int 2)) aNil))) aNil))) (eVar 2) (eVar 3))) sNil)
noncomputable abbrev w4 : Ev → M Fl := (sSet 4 (eFrz (eLC (srcR (eCall oLen (aCons (eVar 2) aNil))) [2] (tgN 0) (bOr (eT (eBin oGt (eVar 0) (eC (.int 2)))) (bNot (eT (eFn 1 f__law_good [] (aCons (eBin oIx (eVar 1) (eVar 0)) aNil))))) (eVar 0))))
noncomputable abbrev w5 : Ev → M Fl := (sSet 5 (eCall oList (aCons (eVar 2) aNil)))
noncomputable abbrev w6 : Ev → M Fl := (sSet 6 (eC .non))
noncomputable abbrev w7 : Ev → M Fl := (sSet 7 (eC .non))
noncomputable abbrev w8 : Ev → M Fl := (sTry (sSet 6 (eFrz (eMake 5 2 f_Book___init__ (aCons (eVar 5) aNil)))) (⟨(htab [(0, false), (1, false), (102, true), (202, true), (302, true), (402, true)]), some 8, (sSet 7 (eTup (aCons (eUn (oPotX [102, 202, 302, 402]) (eVar 8)) (aCons (eAnd (eUn (oIsX (htab [(0, true), (1, true), (102, true), (202, true), (302, true), (402, true)])) (eVar 8)) (eAnd (eUn (oIsX (htab [(0, true), (1, true), (102, true), (202, true), (302, true), (402, true)])) (eVar 8)) (eNot (eUn (oIsX (htab [(0, false), (1, true), (102, false), (202, false), (302, false), (402, false)])) (eVar 8))))) aNil))))⟩ :: []))
noncomputable abbrev w9 : Ev → M Fl := (sIf (eT (eBin oNe (eVar 5) (eVar 2))) (sRet (eC (.bl false))) sNil)
noncomputable abbrev w10 : Ev → M Fl := (sIf (eT (eBin oNe (eVar 4) (eLv aNil))) (sRet (eBin oEq (eVar 7) (eTup (aCons (eBin oIx (eVar 4) (eC (.int 0))) (aCons (eC (.bl true)) aNil))))) sNil)
noncomputable abbrev w11 : Ev → M Fl := (sIf (eT (eBin oIsN (eVar 6) (eC .non))) (sRet (eC (.bl false))) sNil)
noncomputable abbrev w12 : Ev → M Fl := (sExp (eMeth oAppend (eVar 5) (aCons (eC (.int 5)) aNil)))
noncomputable abbrev w13 : Ev → M Fl := (sExp (eMeth oAppend (eMth [(5, f_Book_made_of)] 1 "made_of" (eVar 6) aNil) (aCons (eC (.int 5)) aNil)))
noncomputable abbrev w14 : Ev → M Fl := (sRet (eFn 2 f__law_begun [] (aCons (eVar 6) (aCons (eVar 2) aNil))))
theorem g_law_eq : g_law = (sSeq w1 (sSeq w2 (sSeq w3 (sSeq w4 (sSeq w5 (sSeq w6 (sSeq w7 (sSeq w8 (sSeq w9 (sSeq w10 (sSeq w11 (sSeq w12 (sSeq w13 w14))))))))))))) := rfl

def cellV (ns : List Int) (k : Nat) : Int := ns.getD k 0
theorem cell_ap (ns : List Int) (k : Int) (hk : 0 ≤ k) (σ : Sto) : f__law_cell_at [.scr ns, .int k] σ = .ok (.int (cellV ns k.toNat)) σ := by
  unfold f__law_cell_at g__law_cell_at cellV
  by_cases h : k < ns.length
  · simp [h, oIx_scr hk h]
  · have e : ns.length ≤ k.toNat := by omega
    simp [h, List.getElem?_eq_none e]
theorem lc_new {src : Ev → M Src} {ix : List Nat} {fe : Ev → M D} {ds : List D} {ρ : Ev} {σ : Sto} (y : D → D) (hs : src ρ σ = .ok (.seq ds) σ) (hl : ds.length ≤ 1000)
    (step : ∀ d ∈ ds, ∀ j, fe (some d :: (ix.map fun i => (ρ[i]?).getD none)) (σ ++ j) = .ok (y d) (σ ++ j)) :
    eLC src ix (tgN 0) bTrue fe ρ σ = .ok (.ref σ.length) (σ ++ [.lst (ds.map y)]) := by
  show bnd (src ρ) (lcK (tgN 0) bTrue fe (blkEv ix ρ)) σ = _
  rw [bnd_ap, hs, bind_ok]
  show bnd (lcLoop (.seq ds) σ.length (tgN 0) bTrue fe 1001 0 (none :: (ix.map fun i => (ρ[i]?).getD none))) _ (σ ++ [.lst []]) = _
  rw [bnd_ap, lc_go y (fun _ => true) (fun d hd j => ⟨rfl, fun _ => step d hd j⟩) hl 1001 0 none [] (by omega) (by omega) (by simp), bind_ok]
  rw [List.drop_zero, show List.filter (fun _ => true) ds = ds from List.filter_eq_self.mpr fun _ _ => rfl]
  rfl
def evN (ns : List Int) (z : Int) (x2 x3 x4 x5 x6 x7 x8 : Option D) : Ev := [some (.scr ns), some (.int z), x2, x3, x4, x5, x6, x7, x8]
def F0 (ns : List Int) (i : Nat) : D := (mkP (cellV ns (3 + i))).D
def cntV (z : Int) : Int := if z / 15 % 3 / 2 = 0 then z / 3 % 4 else z / 3 % 5
theorem w1_ap (ns : List Int) : w1 [some (.scr ns), none, none, none, none, none, none, none, none] [] = .ok (.nx (evN ns (cellV ns 0) none none none none none none none)) [] := by
  have c := fun σ => cell_ap ns 0 (by decide) σ
  rw [Int.toNat_zero] at c
  unfold w1 evN
  generalize cellV ns 0 = z at *
  simp [c]
theorem w2_ap (ns : List Int) (z : Int) (n : Nat) (hn : (n : Int) = cntV z) : w2 (evN ns z none none none none none none none) [] = .ok (.nx (evN ns z (some (.ref 0)) none none none none none none)) [.lst (thL n (F0 ns))] := by
  have h4 : n ≤ 4 := by unfold cntV at hn; split at hn <;> omega
  have ix : ∀ σ, oIx (.lst [.int (z / 3 % 4), .int (z / 3 % 5)]) (.int (z / 15 % 3 / 2)) σ = .ok (.int n) σ := fun σ => by
    rw [hn]; unfold cntV
    have h2 : z / 15 % 3 / 2 = 0 ∨ z / 15 % 3 / 2 = 1 := by omega
    rcases h2 with h2 | h2
    · rw [h2, if_pos rfl]; exact ix_l0 ..
    · rw [h2, if_neg (by decide)]; exact ix_l1 ..
  have rk : ∀ σ, rngK (.int (n : Int)) σ = .ok (.seq (rangeD n)) σ := fun σ => by have := rngK_ap (σ := σ) (j := (n : Int)) (by omega) (by omega); simpa using this
  have lc := lc_new (ix := [0]) (ρ := evN ns z none none none none none none none) (σ := []) (src := srcR (eBin oIx (eLv (aCons (eBin oMod (eBin oDiv (eVar 1) (eC (.int 3))) (eC (.int 4))) (aCons (eBin oMod (eBin oDiv (eVar 1) (eC (.int 3))) (eC (.int 5))) aNil))) (eBin oDiv (eBin oMod (eBin oDiv (eVar 1) (eC (.int 15))) (eC (.int 3))) (eC (.int 2)))))
    (fe := eFn 1 f__law_pot [] (aCons (eFn 2 f__law_cell_at [] (aCons (eVar 1) (aCons (eBin oAdd (eC (.int 3)) (eVar 0)) aNil))) aNil)) (ds := rangeD n)
    (fun d => match d with | .int i => F0 ns i.toNat | _ => .non) (by unfold evN; simp [ix, rk]) (by unfold rangeD; simp; omega) (fun d hd j => by
      unfold rangeD at hd
      obtain ⟨i, hi, rfl⟩ := List.mem_map.mp hd
      have c := fun σ => cell_ap ns (3 + (i : Int)) (by omega) σ
      rw [show (3 + (i : Int)).toNat = 3 + i by omega] at c
      have pa := fun σ => pot_ap (cellV ns (3 + i)) σ
      simp only [Int.toNat_natCast]
      unfold F0
      generalize ([] ++ j : Sto) = σ
      generalize cellV ns (3 + i) = y at *
      generalize (mkP y).D = PD at *
      unfold evN
      simp [c, pa])
  have e : (rangeD n).map (fun d => match d with | .int i => F0 ns i.toNat | _ => .non) = thL n (F0 ns) := by
    unfold rangeD thL; rw [List.map_map]; rfl
  rw [e] at lc
  unfold w2
  rw [sSet_ap, lc, xsO_ok, setK_ap]
  rfl

section
variable {n : Nat} {F : Nat → D} {g : Nat → Bool}
theorem ne_l (L : List D) (σ : Sto) (m : Nat) (h : lstAt σ m = some L) : oNe (.ref m) (.lst []) σ = .ok (.bl (!L.isEmpty)) σ := by
  have e1 : kd σ (.ref m) = .l L := by unfold kd; dsimp only; rw [h]
  have : eqD σ 8 (.ref m) (.lst []) = some L.isEmpty := by
    show eqK (eqD σ 7) (kd σ (.ref m)) (.l []) = _
    rw [e1]
    cases L <;> rfl
  exact oNe_of this
theorem thL_set (n : Nat) (F : Nat → D) (a : Nat) (d : D) : (thL n F).set a d = thL n fun i => if i = a then d else F i := by
  apply List.ext_getElem?
  intro i
  unfold thL
  rw [List.getElem?_set]
  by_cases hi : i < n
  · by_cases ha : a = i
    · subst ha; simp [hi]
    · rw [if_neg ha]; simp [hi, Ne.symm ha]
  · by_cases ha : a = i
    · subst ha; simp [hi]
    · rw [if_neg ha]; simp [hi]
theorem ixN_nat {l k : Nat} (h : k < l) : ixN l (k : Int) = some k := by
  unfold ixN
  simp [h]
theorem setL_0 (ρ : Ev) (d : D) (L : List D) (k : Nat) (h : k < L.length) : setL3 ρ d (.ref 0) (.int k) [.lst L] = .ok (.nx ρ) [.lst (L.set k d)] := by
  unfold setL3 oSetL
  have e : lstAt [.lst L] 0 = some L := rfl
  simp only [e, ixN_nat h]
  rfl
theorem w3_ap (ns : List Int) (z : Int) (n : Nat) (hn : n ≤ 4) : ∃ F g x3, Ths n F g ∧ w3 (evN ns z (some (.ref 0)) none none none none none none) [.lst (thL n (F0 ns))] = .ok (.nx (evN ns z (some (.ref 0)) x3 none none none none none)) [.lst (thL n F)] := by
  have t0 : Ths n (F0 ns) (fun _ => true) := ⟨hn, fun i _ => th_pot (mkP_ok _)⟩
  have l0 : lstAt [.lst (thL n (F0 ns))] 0 = some (thL n (F0 ns)) := rfl
  have ne := ne_l (thL n (F0 ns)) [.lst (thL n (F0 ns))] 0 l0
  by_cases h3 : z % 3 = 0
  · refine ⟨F0 ns, _, none, t0, ?_⟩
    unfold w3 evN
    generalize thL n (F0 ns) = L at *
    simp [h3]
  · have b3 : decide (z % 3 > 0) = true := by simp; omega
    by_cases h0 : n = 0
    · refine ⟨F0 ns, _, none, t0, ?_⟩
      subst h0
      unfold w3 evN
      have e : thL 0 (F0 ns) = [] := rfl
      rw [e] at ne ⊢
      simp [b3, ne]
    · obtain ⟨a, ha⟩ : ∃ a : Nat, (a : Int) = cellV ns 1 % n := ⟨(cellV ns 1 % n).toNat, by have := Int.emod_nonneg (cellV ns 1) (show (n : Int) ≠ 0 by omega); omega⟩
      have han : a < n := by have := Int.emod_lt_of_pos (cellV ns 1) (show (0 : Int) < n by omega); omega
      obtain ⟨d, b, td, sp⟩ := spoiled_ap (mkP (cellV ns (3 + a))) (cellV ns 2)
      refine ⟨fun i => if i = a then d else F0 ns i, fun i => if i = a then b else true, some (.int a), ⟨hn, fun i hi => ?_⟩, ?_⟩
      · by_cases hia : i = a
        · simp only [hia, if_true]; exact td
        · simp only [hia, if_false]; exact th_pot (mkP_ok _)
      · rw [← thL_set]
        have c1 := fun σ => cell_ap ns 1 (by decide) σ
        have c2 := fun σ => cell_ap ns 2 (by decide) σ
        rw [show (1 : Int).toNat = 1 from rfl] at c1
        rw [show (2 : Int).toNat = 2 from rfl] at c2
        have hl := thL_len n (F0 ns)
        have ln : oLen [.ref 0] [.lst (thL n (F0 ns))] = .ok (.int n) [.lst (thL n (F0 ns))] := by
          have s : seqOf [.lst (thL n (F0 ns))] (.ref 0) = some (thL n (F0 ns)) := rfl
          unfold oLen; simp only [s]; rw [thL_len]
        have om : ∀ σ, oMod (.int (cellV ns 1)) (.int n) σ = .ok (.int a) σ := fun σ => by rw [oMod_ap _ _ (by omega), ha]
        have ix : oIx (.ref 0) (.int a) [.lst (thL n (F0 ns))] = .ok (mkP (cellV ns (3 + a))).D [.lst (thL n (F0 ns))] := by
          unfold oIx
          have s : seqOf [.lst (thL n (F0 ns))] (.ref 0) = some (thL n (F0 ns)) := rfl
          simp only [s, atI_nat (thL_at (F0 ns) han)]
          rfl
        have st := fun ρ => setL_0 ρ d (thL n (F0 ns)) a (by rw [hl]; exact han)
        have ie : (thL n (F0 ns)).isEmpty = false := by
          cases e : thL n (F0 ns) with
          | nil => rw [e] at hl; simp at hl; omega
          | cons _ _ => rfl
        rw [ie] at ne
        unfold w3 evN
        generalize (mkP (cellV ns (3 + a))).D = PD at *
        generalize thL n (F0 ns) = L at *
        generalize cellV ns 1 = z1 at *
        generalize cellV ns 2 = z2 at *
        simp [b3, ne, c1, c2, ln, om, ix, sp, st]
end

section
variable {n : Nat} {F : Nat → D} {g : Nat → Bool}
def bads (g : Nat → Bool) (n : Nat) : List Int := ((List.range n).filter (bdI g)).map fun (i : Nat) => (i : Int)
theorem fil_fb (g : Nat → Bool) : ∀ (k i : Nat), match fb g k i with | none => (List.range' i k).filter (bdI g) = [] ∧ ∀ j, i ≤ j → j < i + k → bdI g j = false | some j => i ≤ j ∧ j < i + k ∧ ∃ r, (List.range' i k).filter (bdI g) = j :: r
  | 0, i => by unfold fb; exact ⟨rfl, fun j h1 h2 => by omega⟩
  | k + 1, i => by
    unfold fb
    have ih := fil_fb g k (i + 1)
    cases hb : bdI g i with
    | true =>
      simp only [if_true]
      exact ⟨Nat.le_refl _, by omega, _, by rw [List.range'_succ, List.filter_cons, if_pos hb]⟩
    | false =>
      simp only [Bool.false_eq_true, if_false]
      cases hf : fb g k (i + 1) with
      | none =>
        rw [hf] at ih
        refine ⟨by rw [List.range'_succ, List.filter_cons, if_neg (by rw [hb]; decide)]; exact ih.1, fun j h1 h2 => ?_⟩
        by_cases e : j = i
        · rw [e]; exact hb
        · exact ih.2 j (by omega) (by omega)
      | some j =>
        rw [hf] at ih
        obtain ⟨h1, h2, r, h3⟩ := ih
        exact ⟨by omega, by omega, r, by rw [List.range'_succ, List.filter_cons, if_neg (by rw [hb]; decide)]; exact h3⟩
theorem w4_ap (T : Ths n F g) (ns : List Int) (z : Int) (x3 : Option D) : w4 (evN ns z (some (.ref 0)) x3 none none none none none) [.lst (thL n F)] = .ok (.nx (evN ns z (some (.ref 0)) x3 (some (.lst ((bads g n).map D.int))) none none none none)) [.lst (thL n F)] := by
  have h4 := T.le
  have ln : ∀ ρ, (eCall oLen (aCons (eVar 2) aNil)) (evN ns z (some (.ref 0)) x3 ρ none none none none) [.lst (thL n F)] = .ok (.int n) [.lst (thL n F)] := fun ρ => by
    have : oLen [.ref 0] [.lst (thL n F)] = .ok (.int n) [.lst (thL n F)] := by
      have s : seqOf [.lst (thL n F)] (.ref 0) = some (thL n F) := rfl
      unfold oLen; simp only [s]; rw [thL_len]
    unfold evN
    generalize thL n F = L at *
    simp [this]
  have rk : ∀ σ, rngK (.int (n : Int)) σ = .ok (.seq (rangeD n)) σ := fun σ => by have := rngK_ap (σ := σ) (j := (n : Int)) (by omega) (by omega); simpa using this
  have lc := lc_ok (ix := [2]) (ρ := evN ns z (some (.ref 0)) x3 none none none none none) (σ := [.lst (thL n F)]) (src := srcR (eCall oLen (aCons (eVar 2) aNil))) (fi := bOr (eT (eBin oGt (eVar 0) (eC (.int 2)))) (bNot (eT (eFn 1 f__law_good [] (aCons (eBin oIx (eVar 1) (eVar 0)) aNil))))) (fe := eVar 0) (ds := rangeD n)
    (fun d => d) (fun d => match d with | .int i => bdI g i.toNat | _ => false) (by rw [srcR_ap, ln, bind_ok, rk]) (by unfold rangeD; simp; omega) (fun d hd j => by
      unfold rangeD at hd
      obtain ⟨i, hi, rfl⟩ := List.mem_map.mp hd
      have hi' := List.mem_range.mp hi
      refine ⟨?_, fun _ => by simp⟩
      have gd := fun σ => (T.th i hi').good σ
      have ix : oIx (.ref 0) (.int i) ([.lst (thL n F)] ++ j) = .ok (F i) ([.lst (thL n F)] ++ j) := by
        unfold oIx
        have s : seqOf ([.lst (thL n F)] ++ j) (.ref 0) = some (thL n F) := rfl
        simp only [s, atI_nat (thL_at F hi')]
      have b : decide ((2 : Int) < (i : Int)) = decide (2 < i) := by rw [Bool.eq_iff_iff]; simp; omega
      simp only [Int.toNat_natCast]
      unfold bdI evN
      generalize ([Ob.lst (thL n F)] ++ j : Sto) = σ at *
      generalize F i = Fi at *
      generalize g i = gi at *
      cases b2 : decide (2 < i)
      · rw [b2] at b
        simp [b, ix, gd]
      · rw [b2] at b
        simp [b]) (fun d hd _ => by unfold rangeD at hd; obtain ⟨i, hi, rfl⟩ := List.mem_map.mp hd; simp)
  have e : ((rangeD n).filter (fun d => match d with | .int i => bdI g i.toNat | _ => false)).map (fun d => d) = (bads g n).map D.int := by
    unfold rangeD bads
    rw [List.filter_map, List.map_map, List.map_map]
    rfl
  rw [e] at lc
  unfold w4
  rw [sSet_ap, lc, xsO_ok, setK_ap]
  rfl
theorem w5_ap (L : List D) (ns : List Int) (z : Int) (x3 x4 : Option D) : w5 (evN ns z (some (.ref 0)) x3 x4 none none none none) [.lst L] = .ok (.nx (evN ns z (some (.ref 0)) x3 x4 (some (.ref 1)) none none none)) [.lst L, .lst L] := by
  have : oList [.ref 0] [.lst L] = .ok (.ref 1) [.lst L, .lst L] := rfl
  unfold w5 evN
  simp [this]
theorem w6_ap (σ : Sto) (ns : List Int) (z : Int) (x3 x4 x5 : Option D) : w6 (evN ns z (some (.ref 0)) x3 x4 x5 none none none) σ = .ok (.nx (evN ns z (some (.ref 0)) x3 x4 x5 (some .non) none none)) σ := by
  unfold w6 evN; simp
theorem w7_ap (σ : Sto) (ns : List Int) (z : Int) (x3 x4 x5 : Option D) : w7 (evN ns z (some (.ref 0)) x3 x4 x5 (some .non) none none) σ = .ok (.nx (evN ns z (some (.ref 0)) x3 x4 x5 (some .non) (some .non) none)) σ := by
  unfold w7 evN; simp
theorem xh (j : Nat) (hj : j ≤ 3) : (∀ σ, oPotX [102, 202, 302, 402] (.exn (2 + 100 * (j + 1))) σ = .ok (.int j) σ) ∧ (∀ σ, oIsX (htab [(0, true), (1, true), (102, true), (202, true), (302, true), (402, true)]) (.exn (2 + 100 * (j + 1))) σ = .ok (.bl true) σ) ∧
    (∀ σ, oIsX (htab [(0, false), (1, true), (102, false), (202, false), (302, false), (402, false)]) (.exn (2 + 100 * (j + 1))) σ = .ok (.bl false) σ) ∧ htab [(0, false), (1, false), (102, true), (202, true), (302, true), (402, true)] (2 + 100 * (j + 1)) = some true := by
  have h : j = 0 ∨ j = 1 ∨ j = 2 ∨ j = 3 := by omega
  rcases h with rfl | rfl | rfl | rfl <;> exact ⟨fun σ => oPotX_ap rfl rfl, fun σ => oIsX_ap rfl, fun σ => oIsX_ap rfl, rfl⟩
theorem w8_ap (T : Ths n F g) (P : Nat → Pt) (hP : fb g n 0 = none → thL n F = thL n fun i => (P i).D) (ns : List Int) (z : Int) (x3 x4 : Option D) : w8 (evN ns z (some (.ref 0)) x3 x4 (some (.ref 1)) (some .non) (some .non) none) [.lst (thL n F), .lst (thL n F)] =
    .ok (.nx (match fb g n 0 with | none => evN ns z (some (.ref 0)) x3 x4 (some (.ref 1)) (some (bkD n P)) (some .non) none | some j => evN ns z (some (.ref 0)) x3 x4 (some (.ref 1)) (some .non) (some (.tup [.int j, .bl true])) none)) [.lst (thL n F), .lst (thL n F)] := by
  have mk := mk_book T (σ := [.lst (thL n F), .lst (thL n F)]) (x := .ref 1) rfl rfl P hP
  have fl := fil_fb g n 0
  cases hb : fb g n 0 with
  | none =>
    rw [hb] at mk
    unfold w8 evN
    generalize bkD n P = B at *
    generalize thL n F = L at *
    simp [mk, -makeK_1]
  | some j =>
    rw [hb] at mk fl
    dsimp only at mk fl
    have h4 := T.le
    obtain ⟨x1, x2, x3', x4'⟩ := xh j (by omega)
    unfold w8 evN
    generalize thL n F = L at *
    generalize 2 + 100 * (j + 1) = c at *
    have ht := fun (ρ : Ev) (σ : Sto) (g : Ev → M Fl) (r : List Hd) => handle_t (ρ := ρ) (σ := σ) (h := ⟨htab [(0, false), (1, false), (102, true), (202, true), (302, true), (402, true)], some 8, g⟩) (r := r) (x := ⟨c⟩) x4'
    simp [mk, ht, x1, x2, x3', -makeK_1]
end

section
variable {n : Nat} {F : Nat → D} {g : Nat → Bool}
theorem w9_ap (T : Ths n F g) (ns : List Int) (z : Int) (x3 x4 x6 x7 : Option D) : w9 (evN ns z (some (.ref 0)) x3 x4 (some (.ref 1)) x6 x7 none) [.lst (thL n F), .lst (thL n F)] = .ok (.nx (evN ns z (some (.ref 0)) x3 x4 (some (.ref 1)) x6 x7 none)) [.lst (thL n F), .lst (thL n F)] := by
  have ne := ne_refs (σ := [.lst (thL n F), .lst (thL n F)]) (a := 1) (b := 0) (L := thL n F) rfl rfl (eqL_self fun x hx => by
    obtain ⟨i, hi, rfl⟩ := List.mem_map.mp hx
    exact (T.th i (List.mem_range.mp hi)).eq _)
  unfold w9 evN
  generalize thL n F = L at *
  simp [ne]
theorem ne_li (l : List Int) (σ : Sto) : oNe (.lst (l.map D.int)) (.lst []) σ = .ok (.bl (!l.isEmpty)) σ := by
  have : eqD σ 8 (.lst (l.map D.int)) (.lst []) = some l.isEmpty := by cases l <;> rfl
  exact oNe_of this
theorem eq_told (j : Int) (σ : Sto) : oEq (.tup [.int j, .bl true]) (.tup [.int j, .bl true]) σ = .ok (.bl true) σ := by
  have : eqD σ 8 (.tup [.int j, .bl true]) (.tup [.int j, .bl true]) = some true := by
    show eqL (eqD σ 7) _ _ = some true
    exact eqL_self fun x hx => sc_eq (by simp at hx; rcases hx with rfl | rfl <;> rfl) 7 σ
  exact oEq_of this
theorem w10_bad (j : Nat) (l : List Int) (ns : List Int) (z : Int) (x3 x6 : Option D) (σ : Sto) : w10 (evN ns z (some (.ref 0)) x3 (some (.lst ((((j : Nat) : Int) :: l).map D.int))) (some (.ref 1)) x6 (some (.tup [.int j, .bl true])) none) σ = .ok (.rt (.bl true)) σ := by
  have ne := ne_li (((j : Nat) : Int) :: l) σ
  have i0 : oIx (.lst ((((j : Nat) : Int) :: l).map D.int)) (.int 0) σ = .ok (.int j) σ := ix_l0 ..
  have eq := eq_told (j : Int) σ
  unfold w10 evN
  generalize ((((j : Nat) : Int) :: l).map D.int) = LL at *
  simp at ne
  simp [ne, i0, eq]
theorem w10_ok (ns : List Int) (z : Int) (x3 x6 x7 : Option D) (σ : Sto) : w10 (evN ns z (some (.ref 0)) x3 (some (.lst [])) (some (.ref 1)) x6 x7 none) σ = .ok (.nx (evN ns z (some (.ref 0)) x3 (some (.lst [])) (some (.ref 1)) x6 x7 none)) σ := by
  have ne := ne_nil σ
  unfold w10 evN
  simp [ne]
theorem law_true (ns : List Int) (hns : ns.length ≤ 63) : ∃ σ, f_law [.scr ns] [] = .ok (.bl true) σ := by
  obtain ⟨n, hn⟩ : ∃ n : Nat, (n : Int) = cntV (cellV ns 0) := ⟨(cntV (cellV ns 0)).toNat, by unfold cntV; split <;> omega⟩
  have h4 : n ≤ 4 := by unfold cntV at hn; split at hn <;> omega
  have e1 := w1_ap ns
  have e2 := w2_ap ns (cellV ns 0) n hn
  generalize cellV ns 0 = z at *
  obtain ⟨F, g, x3, T, e3⟩ := w3_ap ns z n h4
  have e4 := w4_ap T ns z x3
  have fl := fil_fb g n 0
  have hP : ∃ P : Nat → Pt, (fb g n 0 = none → (∀ i, i < n → (P i).Ok) ∧ thL n F = thL n fun i => (P i).D) := by
    cases hb : fb g n 0 with
    | some j => exact ⟨fun _ => ⟨0, 0, 0, 0, 0⟩, fun q => by cases q⟩
    | none =>
      rw [hb] at fl
      have ex : ∀ i, ∃ p : Pt, i < n → p.Ok ∧ F i = p.D := fun i => by
        by_cases hi : i < n
        · have := fl.2 i (by omega) (by omega)
          unfold bdI at this
          simp only [Bool.or_eq_false_iff, Bool.not_eq_false'] at this
          obtain ⟨p, h1, h2⟩ := (T.th i hi).pot this.2
          exact ⟨p, fun _ => ⟨h1, h2⟩⟩
        · exact ⟨⟨0, 0, 0, 0, 0⟩, fun q => absurd q hi⟩
      refine ⟨fun i => (ex i).choose, fun _ => ⟨fun i hi => ((ex i).choose_spec hi).1, ?_⟩⟩
      unfold thL
      exact List.map_congr_left fun i hi => ((ex i).choose_spec (List.mem_range.mp hi)).2
  obtain ⟨P, hP⟩ := hP
  have e5 := w5_ap (thL n F) ns z x3 (some (.lst ((bads g n).map D.int)))
  have e6 := w6_ap [.lst (thL n F), .lst (thL n F)] ns z x3 (some (.lst ((bads g n).map D.int))) (some (.ref 1))
  have e7 := w7_ap [.lst (thL n F), .lst (thL n F)] ns z x3 (some (.lst ((bads g n).map D.int))) (some (.ref 1))
  have e8 := w8_ap T P (fun q => (hP q).2) ns z x3 (some (.lst ((bads g n).map D.int)))
  unfold f_law
  rw [g_law_eq, run_ap]
  show ∃ σ, runO (sSeq _ _ [some (.scr ns), none, none, none, none, none, none, none, none] []) = .ok (.bl true) σ
  rw [sSeq_ap, e1, bind_ok, seqK_nx, sSeq_ap, e2, bind_ok, seqK_nx, sSeq_ap, e3, bind_ok, seqK_nx, sSeq_ap, e4, bind_ok, seqK_nx, sSeq_ap, e5, bind_ok, seqK_nx, sSeq_ap, e6, bind_ok, seqK_nx, sSeq_ap, e7, bind_ok, seqK_nx, sSeq_ap, e8, bind_ok, seqK_nx, sSeq_ap]
  cases hb : fb g n 0 with
  | some j =>
    rw [hb] at fl
    obtain ⟨_, _, r, hr⟩ := fl
    have eb : bads g n = (j : Int) :: r.map fun (i : Nat) => (i : Int) := by unfold bads; rw [List.range_eq_range', hr]; rfl
    dsimp only
    rw [w9_ap T, bind_ok, seqK_nx, sSeq_ap, eb, w10_bad, bind_ok, seqK_rt, runO_rt]
    exact ⟨_, rfl⟩
  | none =>
    rw [hb] at fl
    have eb : bads g n = [] := by unfold bads; rw [List.range_eq_range', fl.1]; rfl
    obtain ⟨hO, hF⟩ := hP hb
    dsimp only
    rw [w9_ap T, bind_ok, seqK_nx, sSeq_ap, eb, List.map_nil, w10_ok, bind_ok, seqK_nx, sSeq_ap]
    rw [hF]
    have n1 : ∀ σ, oIsN (bkD n P) .non σ = .ok (.bl false) σ := fun σ => nr rfl
    have hl : (pl n P).length < 1000 := by rw [thL_len]; omega
    have a1 : oAppend (.ref 1) [.int 5] [.lst (pl n P), .lst (pl n P)] = .ok .non [.lst (pl n P), .lst (pl n P ++ [.int 5])] := by
      have := append_end (σ := [.lst (pl n P)]) (xs := pl n P) (d := .int 5) hl
      exact this
    have m1 : ∀ fs, methK oAppend fs (.ref 1) [.lst (pl n P), .lst (pl n P)] = (fs [.lst (pl n P), .lst (pl n P)]).bind (oAppend (.ref 1)) := fun fs => methK_ap (xs := pl n P) rfl
    have ma : f_Book_made_of [bkD n P] [.lst (pl n P), .lst (pl n P ++ [.int 5])] = .ok (.ref 2) [.lst (pl n P), .lst (pl n P ++ [.int 5]), .lst (pl n P)] := made_ap _
    have mm := fun fs σ => mmade (n := n) (P := P) fs σ
    have a2 : oAppend (.ref 2) [.int 5] [.lst (pl n P), .lst (pl n P ++ [.int 5]), .lst (pl n P)] = .ok .non [.lst (pl n P), .lst (pl n P ++ [.int 5]), .lst (pl n P ++ [.int 5])] := by
      have := append_end (σ := [.lst (pl n P), .lst (pl n P ++ [.int 5])]) (xs := pl n P) (d := .int 5) hl
      exact this
    have m2 : ∀ fs, methK oAppend fs (.ref 2) [.lst (pl n P), .lst (pl n P ++ [.int 5]), .lst (pl n P)] = (fs [.lst (pl n P), .lst (pl n P ++ [.int 5]), .lst (pl n P)]).bind (oAppend (.ref 2)) := fun fs => methK_ap (xs := pl n P) rfl
    have bg := begun_ap (n := n) (P := P) (m := 0) (σ := [.lst (pl n P), .lst (pl n P ++ [.int 5]), .lst (pl n P ++ [.int 5])]) h4 hO rfl
    refine ⟨[.lst (pl n P), .lst (pl n P ++ [.int 5]), .lst (pl n P ++ [.int 5])], ?_⟩
    unfold w11 w12 w13 w14 evN
    show runO (((sIf _ _ _ _ [.lst (pl n P), .lst (pl n P)]).bind _)) = _
    generalize bkD n P = B at *
    generalize pl n P ++ [.int 5] = L5 at *
    generalize pl n P = L at *
    simp [n1, a1, m1, ma, mm, a2, m2, bg]
end

end K13
open PySem PySem.W PyProof.Rows
set_option maxRecDepth 100000 in
set_option maxHeartbeats 0 in
theorem PySem.Challenge.cw_sidebook_k13_what_makes_a_book_holds : PySem.Challenge.rw_sidebook_k13_what_makes_a_book.Holds := by
  w_on; o_law; k_head; (case hw => w_witness2)
  k_fill
  refine L4.walkL (l := PySem.Challenge.rw_sidebook_k13_what_makes_a_book) (k := 8) (x := "_law_script") (fn := K13.f_law) rfl rfl ⟨rfl, by decide, by decide⟩ (fun w h Y => PySem.W.kIn_of Y) ?F K13.law_true
  case F =>
    intro w mg h KX G
    have h__law_cell_at : L4.HasFn (L2.KOf KX) mg "_law_cell_at" (K13.top 22) ["_law_script", "_law_k"] := by
      dsimp only [L2.KOf]
      refine' L4.mkF KX G K13.bd__law_cell_at ?a ?l ?c ?k
      (case a => k_is); (case l => k_is); (case c => k_is); (case k => k_is)
    have h__law_pot : L4.HasFn (L2.KOf KX) mg "_law_pot" (K13.top 25) ["_law_cell"] := by
      dsimp only [L2.KOf]
      refine' L4.mkF KX G K13.bd__law_pot ?a ?l ?c ?k
      (case a => k_is); (case l => k_is); (case c => k_is); (case k => k_is)
    have h__law_odd : L4.HasFn (L2.KOf KX) mg "_law_odd" (K13.top 24) ["_law_cell", "_law_most"] := by
      dsimp only [L2.KOf]
      refine' L4.mkF KX G K13.bd__law_odd ?a ?l ?c ?k
      (case a => k_is); (case l => k_is); (case c => k_is); (case k => k_is)
    have h__law_spoiled : L4.HasFn (L2.KOf KX) mg "_law_spoiled" (K13.top 26) ["_law_pot_here", "_law_cell"] := by
      dsimp only [L2.KOf]
      refine' L4.mkF KX G K13.bd__law_spoiled ?a ?l ?c ?k
      (case a => k_is); (case l => k_is); (case c => k_is); (case k => k_is)
    have h__law_bound : L4.HasFn (L2.KOf KX) mg "_law_bound" (K13.top 27) ["_law_thing", "_law_most"] := by
      dsimp only [L2.KOf]
      refine' L4.mkF KX G K13.bd__law_bound ?a ?l ?c ?k
      (case a => k_is); (case l => k_is); (case c => k_is); (case k => k_is)
    have h__law_good : L4.HasFn (L2.KOf KX) mg "_law_good" (K13.top 28) ["_law_pot_here"] := by
      dsimp only [L2.KOf]
      refine' L4.mkF KX G K13.bd__law_good ?a ?l ?c ?k
      (case a => k_is); (case l => k_is); (case c => k_is); (case k => k_is)
    have h_is_whole : L4.HasFn (L2.KOf KX) mg "is_whole" (K13.top 4) ["thing"] := by
      dsimp only [L2.KOf]
      refine' L4.mkF KX G K13.bd_is_whole ?a ?l ?c ?k
      (case a => k_is); (case l => k_is); (case c => k_is); (case k => k_is)
    have h_is_between : L4.HasFn (L2.KOf KX) mg "is_between" (K13.top 5) ["thing", "least", "most"] := by
      dsimp only [L2.KOf]
      refine' L4.mkF KX G K13.bd_is_between ?a ?l ?c ?k
      (case a => k_is); (case l => k_is); (case c => k_is); (case k => k_is)
    have h_is_hand : L4.HasFn (L2.KOf KX) mg "is_hand" (K13.top 6) ["thing"] := by
      dsimp only [L2.KOf]
      refine' L4.mkF KX G K13.bd_is_hand ?a ?l ?c ?k
      (case a => k_is); (case l => k_is); (case c => k_is); (case k => k_is)
    have h_makes_a_pot : L4.HasFn (L2.KOf KX) mg "makes_a_pot" (K13.top 17) ["thing"] := by
      dsimp only [L2.KOf]
      refine' L4.mkF KX G K13.bd_makes_a_pot ?a ?l ?c ?k
      (case a => k_is); (case l => k_is); (case c => k_is); (case k => k_is)
    have h_checked_pots : L4.HasFn (L2.KOf KX) mg "checked_pots" (K13.top 18) ["pots"] := by
      dsimp only [L2.KOf]
      refine' L4.mkF KX G K13.bd_checked_pots ?a ?l ?c ?k
      (case a => k_is); (case l => k_is); (case c => k_is); (case k => k_is)
    have h_whole_of : L4.HasFn (L2.KOf KX) mg "whole_of" (K13.top 19) ["made"] := by
      dsimp only [L2.KOf]
      refine' L4.mkF KX G K13.bd_whole_of ?a ?l ?c ?k
      (case a => k_is); (case l => k_is); (case c => k_is); (case k => k_is)
    have h__law_begun : L4.HasFn (L2.KOf KX) mg "_law_begun" (K13.top 29) ["_law_book", "_law_pots"] := by
      dsimp only [L2.KOf]
      refine' L4.mkF KX G K13.bd__law_begun ?a ?l ?c ?k
      (case a => k_is); (case l => k_is); (case c => k_is); (case k => k_is)
    have h_law : L4.HasFn (L2.KOf KX) mg "law" (K13.top 30) ["_law_script"] := by
      dsimp only [L2.KOf]
      refine' L4.mkF KX G K13.bd_law ?a ?l ?c ?k
      (case a => k_is); (case l => k_is); (case c => k_is); (case k => k_is)
    have n_ValueError : mg "ValueError" = none := by
      refine' PySem.W.mg_none_of KX G ?a
      (case a => k_is)
    have n_all : mg "all" = none := by
      refine' PySem.W.mg_none_of KX G ?a
      (case a => k_is)
    have n_bool : mg "bool" = none := by
      refine' PySem.W.mg_none_of KX G ?a
      (case a => k_is)
    have n_dict : mg "dict" = none := by
      refine' PySem.W.mg_none_of KX G ?a
      (case a => k_is)
    have n_enumerate : mg "enumerate" = none := by
      refine' PySem.W.mg_none_of KX G ?a
      (case a => k_is)
    have n_int : mg "int" = none := by
      refine' PySem.W.mg_none_of KX G ?a
      (case a => k_is)
    have n_isinstance : mg "isinstance" = none := by
      refine' PySem.W.mg_none_of KX G ?a
      (case a => k_is)
    have n_len : mg "len" = none := by
      refine' PySem.W.mg_none_of KX G ?a
      (case a => k_is)
    have n_list : mg "list" = none := by
      refine' PySem.W.mg_none_of KX G ?a
      (case a => k_is)
    have n_range : mg "range" = none := by
      refine' PySem.W.mg_none_of KX G ?a
      (case a => k_is)
    have n_sorted : mg "sorted" = none := by
      refine' PySem.W.mg_none_of KX G ?a
      (case a => k_is)
    have n_sum : mg "sum" = none := by
      refine' PySem.W.mg_none_of KX G ?a
      (case a => k_is)
    have n_tuple : mg "tuple" = none := by
      refine' PySem.W.mg_none_of KX G ?a
      (case a => k_is)
    have c_MOST_COIN : ∃ t, mg "MOST_COIN" = some (.int 1000000000000 t) := by
      refine' L4.mkI KX G ?a
      (case a => k_is)
    have c_MOST_HAND : ∃ t, mg "MOST_HAND" = some (.int 3 t) := by
      refine' L4.mkI KX G ?a
      (case a => k_is)
    have c_MOST_POT : ∃ t, mg "MOST_POT" = some (.int 2 t) := by
      refine' L4.mkI KX G ?a
      (case a => k_is)
    have c_MOST_WAIT : ∃ t, mg "MOST_WAIT" = some (.int 100 t) := by
      refine' L4.mkI KX G ?a
      (case a => k_is)
    refine' (have q0 : PySem.W.nsIn (L2.KOf KX) mainGlobals "BookError" = some (some (.ref ?C0)) := ?p0; ?_)
    (case p0 => dsimp only [L2.KOf]; first | k_is | k_exc | rfl)
    refine' (have q1 : PySem.W.excIn (L2.KOf KX) ?C0 L4.veB "ValueError.__new__" = true := ?p1; ?_)
    (case p1 => dsimp only [L2.KOf]; first | k_is | k_exc | rfl)
    refine' (have q2 : PySem.W.nsIn (L2.KOf KX) mainGlobals "NoDeed" = some (some (.ref ?C1)) := ?p2; ?_)
    (case p2 => dsimp only [L2.KOf]; first | k_is | k_exc | rfl)
    refine' (have q3 : PySem.W.excIn (L2.KOf KX) ?C1 L4.veB "ValueError.__new__" = true := ?p3; ?_)
    (case p3 => dsimp only [L2.KOf]; first | k_is | k_exc | rfl)
    refine' (have q4 : PySem.W.nsIn (L2.KOf KX) mainGlobals "NoPot" = some (some (.ref ?C2)) := ?p4; ?_)
    (case p4 => dsimp only [L2.KOf]; first | k_is | k_exc | rfl)
    refine' (have q5 : PySem.W.findIn (L2.KOf KX) (.ref ?C2) "__init__" = some (some (.ref ?C25)) := ?p5; ?_)
    (case p5 => dsimp only [L2.KOf]; first | k_is | k_exc | rfl)
    refine' (have q6 : L4.HasM (L2.KOf KX) ?C2 "__init__" "NoPot.__init__" (L4.mthOf (K13.top 10) 0) ["self", "pot"] ?C25 := ?p6; ?_)
    (case p6 => dsimp only [L2.KOf]; refine' L4.mkM K13.bd_NoPot___init__ ?l ?c ?k; (case l => k_is); (case c => k_is); (case k => k_is))
    refine' (have q7 : L4.excII (L2.KOf KX) ?C2 L4.veB "ValueError.__new__" ?C25 = true := ?p7; ?_)
    (case p7 => dsimp only [L2.KOf]; kernel_rfl)
    refine' (have q8 : ((L2.KOf KX).lookup ?C25).any (fun o => o.cls == .type "function") = true := ?p8; ?_)
    (case p8 => dsimp only [L2.KOf]; kernel_rfl)
    refine' (have q9 : PySem.W.keepIn (L2.KOf KX) (.ref ?C2) = true := ?p9; ?_)
    (case p9 => dsimp only [L2.KOf]; first | k_is | k_exc | rfl)
    refine' (have q10 : PySem.W.findIn (L2.KOf KX) (.ref ?C2) "__setattr__" = some (some (.builtin "object.__setattr__")) := ?p10; ?_)
    (case p10 => dsimp only [L2.KOf]; first | k_is | k_exc | rfl)
    refine' (have q11 : PySem.W.findIn (L2.KOf KX) (.ref ?C2) "pot" = some none := ?p11; ?_)
    (case p11 => dsimp only [L2.KOf]; first | k_is | k_exc | rfl)
    refine' (have q12 : PySem.W.mroIn (L2.KOf KX) ?C2 (.type "object") = some true := ?p12; ?_)
    (case p12 => dsimp only [L2.KOf]; first | k_is | k_exc | rfl)
    refine' (have q13 : PySem.W.specialIn (L2.KOf KX) (.ref ?C0) (Str.ofString "__getattribute__") = some (some (.builtin "type.__getattribute__")) := ?p13; ?_)
    (case p13 => dsimp only [L2.KOf]; first | k_is | k_exc | rfl)
    refine' (have q14 : PySem.W.readsIn (L2.KOf KX) ?C0 (.type "type") = true := ?p14; ?_)
    (case p14 => dsimp only [L2.KOf]; first | k_is | k_exc | rfl)
    refine' (have q15 : PySem.W.findCls (L2.KOf KX) (.ref ?C0) (.type "type") "__init__" = some (.val (.builtin "ValueError.__init__")) := ?p15; ?_)
    (case p15 => dsimp only [L2.KOf]; first | k_is | k_exc | rfl)
    refine' (have q16 : PySem.W.exmOne (L2.KOf KX) (.ref ?C0) (.ref ?C2) = some false := ?p16; ?_)
    (case p16 => dsimp only [L2.KOf]; first | k_is | k_exc | rfl)
    refine' (have q17 : PySem.W.exmOne (L2.KOf KX) (.ref ?C1) (.ref ?C2) = some false := ?p17; ?_)
    (case p17 => dsimp only [L2.KOf]; first | k_is | k_exc | rfl)
    refine' (have q18 : PySem.W.exmOne (L2.KOf KX) (.ref ?C2) (.ref ?C2) = some true := ?p18; ?_)
    (case p18 => dsimp only [L2.KOf]; first | k_is | k_exc | rfl)
    refine' (have q19 : L4.ExK (L2.KOf KX) ?C2 := ?p19; ?_)
    (case p19 => dsimp only [L2.KOf]; refine' ⟨?a, ?b, ?c, ?d, ?e, ?f, ?g, ?h⟩; (case a => k_is); (case b => k_is); (case c => k_is); (case d => k_is); (case e => k_is); (case f => k_is); (case g => k_is); (case h => k_is))
    refine' (have q20 : L4.ExK (L2.KOf KX) ?C1 := ?p20; ?_)
    (case p20 => dsimp only [L2.KOf]; refine' ⟨?a, ?b, ?c, ?d, ?e, ?f, ?g, ?h⟩; (case a => k_is); (case b => k_is); (case c => k_is); (case d => k_is); (case e => k_is); (case f => k_is); (case g => k_is); (case h => k_is))
    refine' (have q21 : L4.ExK (L2.KOf KX) ?C0 := ?p21; ?_)
    (case p21 => dsimp only [L2.KOf]; refine' ⟨?a, ?b, ?c, ?d, ?e, ?f, ?g, ?h⟩; (case a => k_is); (case b => k_is); (case c => k_is); (case d => k_is); (case e => k_is); (case f => k_is); (case g => k_is); (case h => k_is))
    refine' (have q22 : PySem.W.kitOne (L2.KOf KX) (.ref ?C0) (.ref ?C0) = some true := ?p22; ?_)
    (case p22 => dsimp only [L2.KOf]; first | k_is | k_exc | rfl)
    refine' (have q23 : PySem.W.kitOne (L2.KOf KX) (.ref ?C0) (.ref ?C1) = some false := ?p23; ?_)
    (case p23 => dsimp only [L2.KOf]; first | k_is | k_exc | rfl)
    refine' (have q24 : PySem.W.kitOne (L2.KOf KX) (.ref ?C0) (.type "ValueError") = some true := ?p24; ?_)
    (case p24 => dsimp only [L2.KOf]; first | k_is | k_exc | rfl)
    refine' (have q25 : PySem.W.kitOne (L2.KOf KX) (.ref ?C1) (.ref ?C0) = some true := ?p25; ?_)
    (case p25 => dsimp only [L2.KOf]; first | k_is | k_exc | rfl)
    refine' (have q26 : PySem.W.kitOne (L2.KOf KX) (.ref ?C1) (.ref ?C1) = some true := ?p26; ?_)
    (case p26 => dsimp only [L2.KOf]; first | k_is | k_exc | rfl)
    refine' (have q27 : PySem.W.kitOne (L2.KOf KX) (.ref ?C1) (.type "ValueError") = some true := ?p27; ?_)
    (case p27 => dsimp only [L2.KOf]; first | k_is | k_exc | rfl)
    refine' (have q28 : PySem.W.kitOne (L2.KOf KX) (.ref ?C2) (.ref ?C0) = some true := ?p28; ?_)
    (case p28 => dsimp only [L2.KOf]; first | k_is | k_exc | rfl)
    refine' (have q29 : PySem.W.kitOne (L2.KOf KX) (.ref ?C2) (.ref ?C1) = some false := ?p29; ?_)
    (case p29 => dsimp only [L2.KOf]; first | k_is | k_exc | rfl)
    refine' (have q30 : PySem.W.kitOne (L2.KOf KX) (.ref ?C2) (.type "ValueError") = some true := ?p30; ?_)
    (case p30 => dsimp only [L2.KOf]; first | k_is | k_exc | rfl)
    refine' (have q31 : PySem.W.nsIn (L2.KOf KX) mainGlobals "Claim" = some (some (.ref ?C3)) := ?p31; ?_)
    (case p31 => dsimp only [L2.KOf]; first | k_is | k_exc | rfl)
    refine' (have q32 : PySem.W.nsIn (L2.KOf KX) mainGlobals "Held" = some (some (.ref ?C4)) := ?p32; ?_)
    (case p32 => dsimp only [L2.KOf]; first | k_is | k_exc | rfl)
    refine' (have q33 : PySem.W.nsIn (L2.KOf KX) mainGlobals "Book" = some (some (.ref ?C5)) := ?p33; ?_)
    (case p33 => dsimp only [L2.KOf]; first | k_is | k_exc | rfl)
    refine' (have q34 : PySem.W.findIn (L2.KOf KX) (.ref ?C3) "__init__" = some (some (.ref ?C6)) := ?p34; ?_)
    (case p34 => dsimp only [L2.KOf]; first | k_is | k_exc | rfl)
    refine' (have q35 : L4.HasM (L2.KOf KX) ?C3 "__init__" "Claim.__init__" (L4.mthOf (K13.top 12) 0) ["self", "whole"] ?C6 := ?p35; ?_)
    (case p35 => dsimp only [L2.KOf]; refine' L4.mkM K13.bd_Claim___init__ ?l ?c ?k; (case l => k_is); (case c => k_is); (case k => k_is))
    refine' (have q36 : PySem.W.findIn (L2.KOf KX) (.ref ?C5) "__init__" = some (some (.ref ?C10)) := ?p36; ?_)
    (case p36 => dsimp only [L2.KOf]; first | k_is | k_exc | rfl)
    refine' (have q37 : L4.HasM (L2.KOf KX) ?C5 "__init__" "Book.__init__" (L4.mthOf (K13.top 20) 0) ["self", "pots"] ?C10 := ?p37; ?_)
    (case p37 => dsimp only [L2.KOf]; refine' L4.mkM K13.bd_Book___init__ ?l ?c ?k; (case l => k_is); (case c => k_is); (case k => k_is))
    refine' (have q38 : PySem.W.findIn (L2.KOf KX) (.ref ?C5) "made_of" = some (some (.ref ?C24)) := ?p38; ?_)
    (case p38 => dsimp only [L2.KOf]; first | k_is | k_exc | rfl)
    refine' (have q39 : L4.HasM (L2.KOf KX) ?C5 "made_of" "Book.made_of" (L4.mthOf (K13.top 20) 14) ["self"] ?C24 := ?p39; ?_)
    (case p39 => dsimp only [L2.KOf]; refine' L4.mkM K13.bd_Book_made_of ?l ?c ?k; (case l => k_is); (case c => k_is); (case k => k_is))
    refine' (have q40 : PySem.W.findIn (L2.KOf KX) (.ref ?C5) "today" = some (some (.ref ?C12)) := ?p40; ?_)
    (case p40 => dsimp only [L2.KOf]; first | k_is | k_exc | rfl)
    refine' (have q41 : L4.HasM (L2.KOf KX) ?C5 "today" "Book.today" (L4.mthOf (K13.top 20) 2) ["self"] ?C12 := ?p41; ?_)
    (case p41 => dsimp only [L2.KOf]; refine' L4.mkM K13.bd_Book_today ?l ?c ?k; (case l => k_is); (case c => k_is); (case k => k_is))
    refine' (have q42 : PySem.W.findIn (L2.KOf KX) (.ref ?C5) "all_shown" = some (some (.ref ?C23)) := ?p42; ?_)
    (case p42 => dsimp only [L2.KOf]; first | k_is | k_exc | rfl)
    refine' (have q43 : L4.HasM (L2.KOf KX) ?C5 "all_shown" "Book.all_shown" (L4.mthOf (K13.top 20) 13) ["self"] ?C23 := ?p43; ?_)
    (case p43 => dsimp only [L2.KOf]; refine' L4.mkM K13.bd_Book_all_shown ?l ?c ?k; (case l => k_is); (case c => k_is); (case k => k_is))
    refine' (have q44 : PySem.W.findIn (L2.KOf KX) (.ref ?C5) "check_pot" = some (some (.ref ?C11)) := ?p44; ?_)
    (case p44 => dsimp only [L2.KOf]; first | k_is | k_exc | rfl)
    refine' (have q45 : L4.HasM (L2.KOf KX) ?C5 "check_pot" "Book.check_pot" (L4.mthOf (K13.top 20) 1) ["self", "pot"] ?C11 := ?p45; ?_)
    (case p45 => dsimp only [L2.KOf]; refine' L4.mkM K13.bd_Book_check_pot ?l ?c ?k; (case l => k_is); (case c => k_is); (case k => k_is))
    refine' (have q46 : PySem.W.findIn (L2.KOf KX) (.ref ?C4) "told" = some (some (.ref ?C7)) := ?p46; ?_)
    (case p46 => dsimp only [L2.KOf]; first | k_is | k_exc | rfl)
    refine' (have q47 : L4.HasM (L2.KOf KX) ?C4 "told" "Held.told" (L4.mthOf (K13.top 13) 0) ["self"] ?C7 := ?p47; ?_)
    (case p47 => dsimp only [L2.KOf]; refine' L4.mkM K13.bd_Held_told ?l ?c ?k; (case l => k_is); (case c => k_is); (case k => k_is))
    refine' (have q48 : PySem.W.findIn (L2.KOf KX) (.ref ?C5) "told" = some (some (.ref ?C18)) := ?p48; ?_)
    (case p48 => dsimp only [L2.KOf]; first | k_is | k_exc | rfl)
    refine' (have q49 : L4.HasM (L2.KOf KX) ?C5 "told" "Book.told" (L4.mthOf (K13.top 20) 8) ["self", "pot"] ?C18 := ?p49; ?_)
    (case p49 => dsimp only [L2.KOf]; refine' L4.mkM K13.bd_Book_told ?l ?c ?k; (case l => k_is); (case c => k_is); (case k => k_is))
    refine' (have q50 : PySem.W.findIn (L2.KOf KX) (.ref ?C4) "comes" = some (some (.ref ?C8)) := ?p50; ?_)
    (case p50 => dsimp only [L2.KOf]; first | k_is | k_exc | rfl)
    refine' (have q51 : L4.HasM (L2.KOf KX) ?C4 "comes" "Held.comes" (L4.mthOf (K13.top 13) 1) ["self", "day", "shown"] ?C8 := ?p51; ?_)
    (case p51 => dsimp only [L2.KOf]; refine' L4.mkM K13.bd_Held_comes ?l ?c ?k; (case l => k_is); (case c => k_is); (case k => k_is))
    refine' (have q52 : PySem.W.findIn (L2.KOf KX) (.ref ?C5) "due_of" = some (some (.ref ?C20)) := ?p52; ?_)
    (case p52 => dsimp only [L2.KOf]; first | k_is | k_exc | rfl)
    refine' (have q53 : L4.HasM (L2.KOf KX) ?C5 "due_of" "Book.due_of" (L4.mthOf (K13.top 20) 10) ["self", "pot"] ?C20 := ?p53; ?_)
    (case p53 => dsimp only [L2.KOf]; refine' L4.mkM K13.bd_Book_due_of ?l ?c ?k; (case l => k_is); (case c => k_is); (case k => k_is))
    refine' (have q54 : PySem.W.findIn (L2.KOf KX) (.ref ?C5) "shown_for" = some (some (.ref ?C19)) := ?p54; ?_)
    (case p54 => dsimp only [L2.KOf]; first | k_is | k_exc | rfl)
    refine' (have q55 : L4.HasM (L2.KOf KX) ?C5 "shown_for" "Book.shown_for" (L4.mthOf (K13.top 20) 9) ["self", "pot"] ?C19 := ?p55; ?_)
    (case p55 => dsimp only [L2.KOf]; refine' L4.mkM K13.bd_Book_shown_for ?l ?c ?k; (case l => k_is); (case c => k_is); (case k => k_is))
    refine' (have q56 : PySem.W.findIn (L2.KOf KX) (.ref ?C5) "coin_of" = some (some (.ref ?C21)) := ?p56; ?_)
    (case p56 => dsimp only [L2.KOf]; first | k_is | k_exc | rfl)
    refine' (have q57 : L4.HasM (L2.KOf KX) ?C5 "coin_of" "Book.coin_of" (L4.mthOf (K13.top 20) 11) ["self", "hand"] ?C21 := ?p57; ?_)
    (case p57 => dsimp only [L2.KOf]; refine' L4.mkM K13.bd_Book_coin_of ?l ?c ?k; (case l => k_is); (case c => k_is); (case k => k_is))
    refine' (have q58 : PySem.W.findIn (L2.KOf KX) (.ref ?C5) "is_over" = some (some (.ref ?C22)) := ?p58; ?_)
    (case p58 => dsimp only [L2.KOf]; first | k_is | k_exc | rfl)
    refine' (have q59 : L4.HasM (L2.KOf KX) ?C5 "is_over" "Book.is_over" (L4.mthOf (K13.top 20) 12) ["self"] ?C22 := ?p59; ?_)
    (case p59 => dsimp only [L2.KOf]; refine' L4.mkM K13.bd_Book_is_over ?l ?c ?k; (case l => k_is); (case c => k_is); (case k => k_is))
    refine' (have q60 : L2.Cls (L2.KOf KX) ?C5 := ?p60; ?_)
    (case p60 => dsimp only [L2.KOf]; refine' ⟨?a, ?b, ?c, ?d⟩; (case a => k_is); (case b => k_is); (case c => k_is); (case d => k_is))
    refine' (have q61 : L2.NoAttr (L2.KOf KX) ?C5 "pots" := ?p61; ?_)
    (case p61 => dsimp only [L2.KOf]; first | k_is | k_exc | rfl)
    refine' (have q62 : L2.NoAttr (L2.KOf KX) ?C5 "day" := ?p62; ?_)
    (case p62 => dsimp only [L2.KOf]; first | k_is | k_exc | rfl)
    refine' (have q63 : L2.Cls (L2.KOf KX) ?C4 := ?p63; ?_)
    (case p63 => dsimp only [L2.KOf]; refine' ⟨?a, ?b, ?c, ?d⟩; (case a => k_is); (case b => k_is); (case c => k_is); (case d => k_is))
    refine' (have q64 : L2.NoAttr (L2.KOf KX) ?C4 "whole" := ?p64; ?_)
    (case p64 => dsimp only [L2.KOf]; first | k_is | k_exc | rfl)
    refine' (have q65 : L2.Cls (L2.KOf KX) ?C3 := ?p65; ?_)
    (case p65 => dsimp only [L2.KOf]; refine' ⟨?a, ?b, ?c, ?d⟩; (case a => k_is); (case b => k_is); (case c => k_is); (case d => k_is))
    refine' (have q66 : L2.NoAttr (L2.KOf KX) ?C3 "whole" := ?p66; ?_)
    (case p66 => dsimp only [L2.KOf]; first | k_is | k_exc | rfl)
    refine' (have q67 : L2.Mk (L2.KOf KX) ?C4 ?C6 := ?p67; ?_)
    (case p67 => dsimp only [L2.KOf]; refine' ⟨?a, ?b, ?c, ?d⟩; (case a => k_is); (case b => k_is); (case c => k_is); (case d => k_is))
    refine' (have q68 : L2.NoAttr (L2.KOf KX) ?C5 "claims" := ?p68; ?_)
    (case p68 => dsimp only [L2.KOf]; first | k_is | k_exc | rfl)
    refine' (have q69 : L2.NoAttr (L2.KOf KX) ?C5 "shown" := ?p69; ?_)
    (case p69 => dsimp only [L2.KOf]; first | k_is | k_exc | rfl)
    refine' (have q70 : L2.Mk (L2.KOf KX) ?C5 ?C10 := ?p70; ?_)
    (case p70 => dsimp only [L2.KOf]; refine' ⟨?a, ?b, ?c, ?d⟩; (case a => k_is); (case b => k_is); (case c => k_is); (case d => k_is))
    refine' (have q71 : L2.Meth (L2.KOf KX) ?C5 "made_of" ?C24 := ?p71; ?_)
    (case p71 => dsimp only [L2.KOf]; refine' ⟨?a, ?b, ?c⟩; (case a => k_is); (case b => k_is); (case c => k_is))
    refine' (have q72 : L2.Meth (L2.KOf KX) ?C5 "today" ?C12 := ?p72; ?_)
    (case p72 => dsimp only [L2.KOf]; refine' ⟨?a, ?b, ?c⟩; (case a => k_is); (case b => k_is); (case c => k_is))
    refine' (have q73 : L2.Meth (L2.KOf KX) ?C5 "all_shown" ?C23 := ?p73; ?_)
    (case p73 => dsimp only [L2.KOf]; refine' ⟨?a, ?b, ?c⟩; (case a => k_is); (case b => k_is); (case c => k_is))
    refine' (have q74 : L2.Meth (L2.KOf KX) ?C5 "check_pot" ?C11 := ?p74; ?_)
    (case p74 => dsimp only [L2.KOf]; refine' ⟨?a, ?b, ?c⟩; (case a => k_is); (case b => k_is); (case c => k_is))
    refine' (have q75 : L2.Meth (L2.KOf KX) ?C4 "told" ?C7 := ?p75; ?_)
    (case p75 => dsimp only [L2.KOf]; refine' ⟨?a, ?b, ?c⟩; (case a => k_is); (case b => k_is); (case c => k_is))
    refine' (have q76 : L2.Meth (L2.KOf KX) ?C5 "told" ?C18 := ?p76; ?_)
    (case p76 => dsimp only [L2.KOf]; refine' ⟨?a, ?b, ?c⟩; (case a => k_is); (case b => k_is); (case c => k_is))
    refine' (have q77 : L2.Meth (L2.KOf KX) ?C4 "comes" ?C8 := ?p77; ?_)
    (case p77 => dsimp only [L2.KOf]; refine' ⟨?a, ?b, ?c⟩; (case a => k_is); (case b => k_is); (case c => k_is))
    refine' (have q78 : L2.Meth (L2.KOf KX) ?C5 "due_of" ?C20 := ?p78; ?_)
    (case p78 => dsimp only [L2.KOf]; refine' ⟨?a, ?b, ?c⟩; (case a => k_is); (case b => k_is); (case c => k_is))
    refine' (have q79 : L2.Meth (L2.KOf KX) ?C5 "shown_for" ?C19 := ?p79; ?_)
    (case p79 => dsimp only [L2.KOf]; refine' ⟨?a, ?b, ?c⟩; (case a => k_is); (case b => k_is); (case c => k_is))
    refine' (have q80 : L2.Meth (L2.KOf KX) ?C5 "coin_of" ?C21 := ?p80; ?_)
    (case p80 => dsimp only [L2.KOf]; refine' ⟨?a, ?b, ?c⟩; (case a => k_is); (case b => k_is); (case c => k_is))
    refine' (have q81 : L2.Meth (L2.KOf KX) ?C5 "is_over" ?C22 := ?p81; ?_)
    (case p81 => dsimp only [L2.KOf]; refine' ⟨?a, ?b, ?c⟩; (case a => k_is); (case b => k_is); (case c => k_is))
    refine ⟨fun n => ([?C0, ?C1, ?C2, ?C3, ?C4, ?C5, ?C6, ?C7, ?C8, 0, ?C10, ?C11, ?C12, 0, 0, 0, 0, 0, ?C18, ?C19, ?C20, ?C21, ?C22, ?C23, ?C24, ?C25] : List Addr).getD (n % 100) 0, ?_⟩
    exact K13.ok_law ⟨h__law_cell_at, h__law_pot, h__law_odd, h__law_spoiled, h__law_bound, h__law_good, h_is_whole, h_is_between, h_is_hand, h_makes_a_pot, h_checked_pots, q35, h_whole_of, q37, q39, q41, q43, q45, q47, q49, q51, q53, q55, q57, q59, h__law_begun, h_law, n_ValueError, n_all, n_bool, n_dict, n_enumerate, n_int, n_isinstance, n_len, n_list, n_range, n_sorted, n_sum, n_tuple, c_MOST_COIN, c_MOST_HAND, c_MOST_POT, c_MOST_WAIT, fun c hc n _ => L4.code_get _ c n hc, q6, q7, q8, q9, q10, q11, q12, q13, q14, q15, PySem.W.mg_of KX G q0, q1, PySem.W.mg_of KX G q2, q3, PySem.W.mg_of KX G q4, q16, q17, q18, q19, q20, q21, q22, q23, q24, q25, q26, q27, q28, q29, q30, q60, q61, q62, q63, q64, q65, q66, PySem.W.mg_of KX G q32, q67, q68, q69, PySem.W.mg_of KX G q33, q70, q71, q72, q73, q74, q75, q76, q77, q78, q79, q80, q81⟩

