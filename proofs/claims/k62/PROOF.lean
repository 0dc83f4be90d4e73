import PyProof.Rows.All
import Wide.All
import OpenK.AllK
import Wide.FinOn
import Lean
import PyProof.EqAt
import PyProof.EqKinds
import PyProof.TupleCall
import PyProof.NeKinds
import PyProof.NsDelKeeps
import KE.KTryMore
import PyProof.WalksMore
import PyProof.Rows.SetFrom
import KE.KEqDict
import PyProof.ToksMono
import PyProof.StrCalls6
import PyProof.StrBlock2
import PyProof.SliceStr2
import PyProof.StrLawsTight
import PySem.Challenge.RW_sidebook_k62_texts_refused
set_option Elab.async false
set_option linter.all false
set_option maxRecDepth 100000
def PySem.W.Fast.tw14511715471509099206 : Nat := 0
def PySem.W.Fast.tw8338339280709775217 : Nat := 0
def PySem.W.Fast.tw17371835874753883026 : Nat := 0
def PySem.W.Fast.tw15204855022984624524 : Nat := 0
def PySem.W.Fast.tw17103444102803255761 : Nat := 0
def PySem.W.Fast.tw12615342553892033664 : Nat := 0
def PySem.W.Fast.tw15371511764788964975 : Nat := 0
def PySem.W.Fast.tw16410355074379233127 : Nat := 0
def PySem.W.Fast.tw6028084721431972768 : Nat := 0
def PySem.W.Fast.tw6067861310347237000 : Nat := 0
def PySem.W.Fast.tw11605691377964607131 : Nat := 0
def PySem.W.Fast.tw15509794102964897064 : Nat := 0
def PySem.W.Fast.tw9353223505387289501 : Nat := 0
def PySem.W.Fast.tw12569493878744212005 : Nat := 0
def PySem.W.Fast.tw3399702074762392688 : Nat := 0
/-! THE HAND LAYER, for ints, bools, texts, own classes, LISTS and tuples (index, slices, in, append, pop ..), calls, loops. Paste it whole ahead of your own text; what your proof does not reach may be deleted. -/
namespace L2
open PySem PySem.Spec PyProof.Rows

/-- a key: an int or a str -/
abbrev Key := Sum Int Str
def keyIs : Key → Value → Bool
  | .inl k, v => Value.isInt k v
  | .inr x, v => Value.isStrOf x v
def keyH (w : World) : Key → Int
  | .inl k => hashInt k
  | .inr x => hashStr w x
theorem keyIs_shape : ∀ {k : Key} {v : Value}, keyIs k v = true → (∃ i t, k = Sum.inl i ∧ v = Value.int i t) ∨ (∃ x t, k = Sum.inr x ∧ v = Value.str x t)
  | .inl i, v, h => by
    obtain ⟨t, e⟩ := Value.isInt_shape (k := i) (v := v) h
    exact .inl ⟨i, t, rfl, e⟩
  | .inr x, v, h => by
    obtain ⟨t, e⟩ := Value.isStrOf_shape (x := x) (v := v) h
    exact .inr ⟨x, t, rfl, e⟩
theorem key_ll (a b : Int) : decide ((Sum.inl a : Key) = Sum.inl b) = (a == b) := by
  by_cases e : a = b
  · subst e; simp
  · have h : ¬ (Sum.inl a : Key) = Sum.inl b := fun q => e (Sum.inl.inj q)
    rw [decide_eq_false h]
    exact (beq_eq_false_iff_ne.mpr e).symm
theorem key_rr (a b : Str) : decide ((Sum.inr a : Key) = Sum.inr b) = decide (a = b) := by
  by_cases e : a = b
  · subst e; simp
  · have h : ¬ (Sum.inr a : Key) = Sum.inr b := fun q => e (Sum.inr.inj q)
    rw [decide_eq_false h, decide_eq_false e]
theorem key_lr (a : Int) (b : Str) : decide ((Sum.inl a : Key) = Sum.inr b) = false := decide_eq_false (fun q => nomatch q)
theorem key_rl (a : Str) (b : Int) : decide ((Sum.inr a : Key) = Sum.inl b) = false := decide_eq_false (fun q => nomatch q)

def mixKind (prog : Program) (w : World) : PySem.KeyKind prog w Key where
  is := keyIs
  hash := keyH w
  inj := fun v a b ha hb => by
    rcases keyIs_shape ha with ⟨i, t, rfl, rfl⟩ | ⟨x, t, rfl, rfl⟩
    · rcases keyIs_shape hb with ⟨j, u, rfl, e⟩ | ⟨y, u, rfl, e⟩
      · injection e with e1 _; rw [e1]
      · exact nomatch e
    · rcases keyIs_shape hb with ⟨j, u, rfl, e⟩ | ⟨y, u, rfl, e⟩
      · exact nomatch e
      · injection e with e1 _; rw [e1]
  byValue := fun k v h => by
    rcases keyIs_shape h with ⟨i, t, rfl, rfl⟩ | ⟨x, t, rfl, rfl⟩ <;> rfl
  pyHash := fun hv h => by
    rcases keyIs_shape hv with ⟨i, t, rfl, rfl⟩ | ⟨x, t, rfl, rfl⟩
    · exact wpAny_pyHash_int h
    · exact wpAny_pyHash_str h
  eqBool := fun hu hv h => by
    rcases keyIs_shape hu with ⟨i, t, rfl, rfl⟩ | ⟨x, t, rfl, rfl⟩
    · rcases keyIs_shape hv with ⟨j, u, rfl, rfl⟩ | ⟨y, u, rfl, rfl⟩
      · rw [key_ll] at h; exact wpAny_eqBool_int h
      · rw [key_lr] at h; exact SeqAt.EqAt.int_str i t y u _ _ _ _ h
    · rcases keyIs_shape hv with ⟨j, u, rfl, rfl⟩ | ⟨y, u, rfl, rfl⟩
      · rw [key_rl] at h; exact SeqAt.EqAt.str_int x t j u _ _ _ _ h
      · rw [key_rr] at h; exact wpAny_eqBool_str h
  «strs» := fun k x t v h => by
    rcases keyIs_shape h with ⟨i, u, rfl, e⟩ | ⟨y, u, rfl, e⟩
    · exact nomatch e
    · injection e with e1 _
      subst e1
      cases v <;> rfl

end L2

namespace L2
open PySem PySem.Spec PyProof.Rows

/-- a value, without the heap -/
inductive V where
  | non | bl (b : Bool) | int (i : Int) | str (x : Str) | byt (b : Array UInt8) | flt (b : UInt64) | ref (a : Addr) | ty (n : String)
  deriving DecidableEq

def RelV : V → Value → Prop
  | .non, u => u = Value.none
  | .bl b, u => u = Value.bool b
  | .int i, u => ∃ t, u = Value.int i t
  | .str x, u => ∃ t, u = Value.str x t
  | .byt b, u => ∃ t, u = Value.bytes b t
  | .flt b, u => ∃ t, u = Value.float b t
  | .ref a, u => u = Value.ref a
  | .ty n, u => u = Value.type n

abbrev Vals : List V → List Value → Prop := Paired RelV
theorem Vals.length {xs : List V} {us : List Value} (r : Vals xs us) : xs.length = us.length := Paired.length r
theorem Vals.get : ∀ {xs : List V} {us : List Value} {i : Nat} {x : V}, Vals xs us → xs[i]? = some x → ∃ u, us[i]? = some u ∧ RelV x u
  | _, _, _, _, .nil, e => by simp at e
  | _, _, 0, _, .cons r _, e => by simp at e; subst e; exact ⟨_, rfl, r⟩
  | _, _, i + 1, x, .cons _ t, e => by
    obtain ⟨u, h1, h2⟩ := Vals.get (i := i) (x := x) t (by simpa using e)
    exact ⟨u, by simpa using h1, h2⟩
theorem Vals.set {x : V} {u : Value} (r : RelV x u) : ∀ {xs : List V} {us : List Value} (i : Nat), Vals xs us → Vals (xs.set i x) (us.set i u)
  | _, _, _, .nil => .nil
  | _, _, 0, .cons _ t => .cons r t
  | _, _, i + 1, .cons q t => .cons q (Vals.set r i t)
theorem Vals.append : ∀ {xs ys : List V} {us ws : List Value}, Vals xs us → Vals ys ws → Vals (xs ++ ys) (us ++ ws)
  | _, _, _, _, .nil, s => s
  | _, _, _, _, .cons r t, s => .cons r (Vals.append t s)
theorem Vals.take : ∀ {xs : List V} {us : List Value} (n : Nat), Vals xs us → Vals (xs.take n) (us.take n)
  | _, _, 0, _ => .nil
  | _, _, _ + 1, .nil => .nil
  | _, _, n + 1, .cons r t => .cons r (Vals.take n t)
theorem Vals.drop : ∀ {xs : List V} {us : List Value} (n : Nat), Vals xs us → Vals (xs.drop n) (us.drop n)
  | _, _, 0, r => r
  | _, _, _ + 1, .nil => .nil
  | _, _, n + 1, .cons _ t => Vals.drop n t

def RelO : Option V → Option Value → Prop
  | some v, some u => RelV v u
  | none, none => True
  | _, _ => False
def KV {κ : Type} : List (κ × V) → List (κ × Value) → Prop := Paired fun (p : κ × V) (q : κ × Value) => p.1 = q.1 ∧ RelV p.2 q.2

/-- a key of a dict (00_mix): an int or a text -/
def kV : Key → V
  | .inl i => .int i
  | .inr x => .str x

/-- what stands at a tracked address -/
inductive HO where
  /-- a list -/
  | lst (xs : List V)
  /-- a tuple (never changes) -/
  | tup (xs : List V)
  /-- a dict whose keys are ints and texts; one whose keys are tuples of ints and texts (the empty one is both) -/
  | dK (kvs : List (Key × V)) | dT (kvs : List (List Key × V))
  /-- a set of ints: its members, its size -/
  | set (S : Int → Bool) (n : Nat)
  /-- an instance of the class at C, its dict at dx, its attributes -/
  | ins (C dx : Addr) (fs : List (Str × V))
  /-- the dict of the instance at x -/
  | own (x : Addr)
  /-- the dict of an exception -/
  | xd (fs : List (Str × V))
  /-- a bound method, f of x -/
  | met (f x : Addr)
  /-- a range object lo, lo + 1, .. below hi -/
  | rng (lo hi : Int)
  /-- a thing that is known to the object (the script; a dict while a loop walks it): read, never written while it is so -/
  | frz (o : Obj) (u : HO)
  /-- a code object's table -/
  | tbl (ps : Array Value)
  /-- any other thing, by what is true of its one object (a def of one's own: SetO a S n := HO.ext fun h => ..) -/
  | ext (φ : Heap → Prop)

abbrev Hp := Addr → Option HO
def upd (H : Hp) (a : Addr) (o : HO) : Hp := fun b => if b = a then some o else H b
theorem upd_same {H : Hp} {a : Addr} {o : HO} : upd H a o a = some o := by unfold upd; rw [if_pos rfl]
theorem upd_ne {H : Hp} {a b : Addr} {o : HO} (h : b ≠ a) : upd H a o b = H b := by unfold upd; rw [if_neg h]
/-- two objects of different content stand apart -/
theorem ne_of {H : Hp} {a b : Addr} {o u : HO} (h : H a = some o) (h' : H b = some u) (d : o ≠ u) : a ≠ b := by
  intro e; subst e; rw [h] at h'; exact d (Option.some.inj h')
theorem ne_of_none {H : Hp} {a b : Addr} {o : HO} (h : H a = some o) (h' : H b = none) : a ≠ b := by
  intro e; subst e; rw [h] at h'; cases h'

section
variable (P : Program) (w : World)
def ObjOk (H : Hp) (h : Heap) (a : Addr) : HO → Prop
  | .lst xs => xs.length ≤ sizeLine ∧ ∃ (its : List Value) (n : Nat), Vals xs its ∧ h.get? a = some { cls := .type "list", data := .seq its.toArray n }
  | .tup xs => xs.length ≤ sizeLine ∧ ∃ its : List Value, Vals xs its ∧ IsTup h a its.toArray
  | .dK kvs => kvs.length ≤ sizeLine ∧ (a == sysModules) = false ∧ ∃ vs, KV kvs vs ∧ h.DictOf (mixKind P w) a vs
  | .dT kvs => kvs.length ≤ sizeLine ∧ (a == sysModules) = false ∧ ∃ xs : List (List Key × Addr × Value),
      Paired (fun (p : List Key × V) (q : List Key × Addr × Value) => p.1 = q.1 ∧ H q.2.1 = some (.tup (p.1.map kV)) ∧ RelV p.2 q.2.2) kvs xs ∧
      ∃ o es ep, h.get? a = some o ∧ o.ExactDict ∧ o.data = .dict es ep ∧ es.toList = xs.map (entryOfKey (tupleKind (mixKind P w))) ∧ (xs.map (·.1)).Nodup
  | .set S n => h.SetOf (intKind P w) a S n
  | .ins C dx fs => H dx = some (.own a) ∧ fs.length ≤ 1000 ∧ dx ≠ a ∧ h.get? a = some (PySem.W.instObj C dx) ∧
      ∃ mA, h.Ns1 dx mA ∧ (∀ f, RelO (fs.lookup f) (mA f)) ∧ PySem.Within mA (fs.map (·.1))
  | .own _ => ∃ o, h.get? a = some o
  | .xd fs => ∃ mA, h.Ns1 a mA ∧ ∀ f, RelO (fs.lookup f) (mA f)
  | .rng lo hi => ∃ t u v, h.get? a = some { cls := .type "range", data := .fields #[.int lo t, .int hi u, .int 1 v] }
  | .frz o u => h.get? a = some o ∧ ObjOk H h a u
  | .tbl ps => h.get? a = some { cls := .none, data := .fields ps }
  | .met f x => h.get? a = some (PySem.W.methodObj (.ref f) (.ref x))
  | .ext φ => φ h ∧ (∃ o, h.get? a = some o) ∧ ∀ h1 h2 : Heap, φ h1 → (∀ o, h1.get? a = some o → h2.get? a = some o) → φ h2
/-- the abstract heap is held -/
def HOk (H : Hp) (h : Heap) : Prop := ∀ a o, H a = some o → ObjOk P w H h a o
end

section
variable {P : Program} {w : World} {H H' : Hp} {h h' : Heap} {a : Addr} {o : HO}
theorem ObjOk.lt (x : ObjOk P w H h a o) : a < h.objs.size := by
  cases o with
  | lst xs => obtain ⟨_, _, _, _, e⟩ := x; exact Heap.lt_size e
  | tup xs => obtain ⟨_, _, _, p⟩ := x; exact p.lt
  | dK kvs => obtain ⟨_, _, _, _, o, _, _, e, _⟩ := x; exact Heap.lt_size e
  | dT kvs => obtain ⟨_, _, _, _, o, _, _, e, _⟩ := x; exact Heap.lt_size e
  | set S n => obtain ⟨o, _, _, _, e, _⟩ := x; exact Heap.lt_size e
  | ins C dx fs => obtain ⟨_, _, _, e, _⟩ := x; exact Heap.lt_size e
  | own y => obtain ⟨_, e⟩ := x; exact Heap.lt_size e
  | xd fs => obtain ⟨_, ⟨_, _, _, e, _⟩, _⟩ := x; exact Heap.lt_size e
  | rng lo hi => obtain ⟨_, _, _, e⟩ := x; exact Heap.lt_size e
  | frz ob u => obtain ⟨e, _⟩ := x; exact Heap.lt_size e
  | tbl ps => exact Heap.lt_size (show h.get? a = some _ from x)
  | met f y => exact Heap.lt_size (show h.get? a = some _ from x)
  | ext φ => obtain ⟨_, ⟨_, e⟩, _⟩ := x; exact Heap.lt_size e
theorem Paired.mapP {α β : Type} {F G : α → β → Prop} : ∀ {l₁ : List α} {l₂ : List β}, Paired F l₁ l₂ → (∀ a b, F a b → G a b) → Paired G l₁ l₂
  | _, _, .nil, _ => .nil
  | _, _, .cons r t, f => .cons (f _ _ r) (Paired.mapP t f)
/-- what an object's description leans on: its own object, its own dict, the tuples -/
theorem ObjOk.stay (x : ObjOk P w H h a o) (k : ∀ b u, (b = a ∨ H b = some (.own a)) → h.get? b = some u → h'.get? b = some u)
    (ho : ∀ b, H b = some (.own a) → H' b = some (.own a)) (ht : ∀ b xs, H b = some (.tup xs) → H' b = some (.tup xs)) : ObjOk P w H' h' a o := by
  induction o with
  | lst xs => obtain ⟨z, its, n, r, e⟩ := x; exact ⟨z, its, n, r, k _ _ (.inl rfl) e⟩
  | tup xs => obtain ⟨z, its, r, ob, e, c⟩ := x; exact ⟨z, its, r, ob, k _ _ (.inl rfl) e, c⟩
  | dK kvs => obtain ⟨z, y, vs, r, ob, es, ep, e, c⟩ := x; exact ⟨z, y, vs, r, ob, es, ep, k _ _ (.inl rfl) e, c⟩
  | dT kvs =>
    obtain ⟨z, y, xs, r, ob, es, ep, e, c⟩ := x
    exact ⟨z, y, xs, Paired.mapP r fun p q z => ⟨z.1, ht _ _ z.2.1, z.2.2⟩, ob, es, ep, k _ _ (.inl rfl) e, c⟩
  | set S n => obtain ⟨ob, es, ep, t, e, c⟩ := x; exact ⟨ob, es, ep, t, k _ _ (.inl rfl) e, c⟩
  | ins C dx fs =>
    obtain ⟨d, z, ne, e, mA, ⟨od, es, ep, e2, c⟩, r⟩ := x
    exact ⟨ho _ d, z, ne, k _ _ (.inl rfl) e, mA, ⟨od, es, ep, k _ _ (.inr d) e2, c⟩, r⟩
  | own y => obtain ⟨ob, e⟩ := x; exact ⟨ob, k _ _ (.inl rfl) e⟩
  | xd fs => obtain ⟨mA, ⟨od, es, ep, e, c⟩, r⟩ := x; exact ⟨mA, ⟨od, es, ep, k _ _ (.inl rfl) e, c⟩, r⟩
  | rng lo hi => obtain ⟨t, u, v, e⟩ := x; exact ⟨t, u, v, k _ _ (.inl rfl) e⟩
  | frz ob u ih => obtain ⟨e, q⟩ := x; exact ⟨k _ _ (.inl rfl) e, ih q⟩
  | tbl ps =>
    have e : h.get? a = some { cls := .none, data := .fields ps } := x
    show h'.get? a = some { cls := .none, data := .fields ps }
    exact k a _ (.inl rfl) e
  | met f y =>
    have e : h.get? a = some (PySem.W.methodObj (.ref f) (.ref y)) := x
    show h'.get? a = some (PySem.W.methodObj (.ref f) (.ref y))
    exact k a _ (.inl rfl) e
  | ext φ => obtain ⟨p, ⟨o, e⟩, st⟩ := x; exact ⟨st _ _ p fun o q => k _ _ (.inl rfl) q, ⟨o, k _ _ (.inl rfl) e⟩, st⟩
theorem HOk.lt (x : HOk P w H h) (e : H a = some o) : a < h.objs.size := (x a o e).lt
theorem HOk.fresh (x : HOk P w H h) (e : h.objs.size ≤ a) : H a = none := by
  cases q : H a with
  | none => rfl
  | some u => exact absurd (Nat.lt_of_lt_of_le (x.lt q) e) (Nat.lt_irrefl _)
/-- every object of the heap is kept -/
theorem HOk.kept (x : HOk P w H h) (k : ∀ b u, h.get? b = some u → h'.get? b = some u) : HOk P w H h' := fun a o e =>
  (x a o e).stay (fun b u _ q => k b u q) (fun _ q => q) fun _ _ q => q
/-- a new object is laid and tracked -/
theorem HOk.laid (x : HOk P w H h) (k : ∀ b u, h.get? b = some u → h'.get? b = some u) (hp : h.objs.size ≤ a) (new : ObjOk P w (upd H a o) h' a o) : HOk P w (upd H a o) h' := fun b u e => by
  have hn := x.fresh hp
  by_cases hb : b = a
  · subst hb; rw [upd_same] at e; cases e; exact new
  · rw [upd_ne hb] at e
    exact (x b u e).stay (fun c v _ q => k c v q) (fun c q => by rw [upd_ne (ne_of_none q hn)]; exact q) fun c xs q => by rw [upd_ne (ne_of_none q hn)]; exact q
end

/-- what may be read as u: it is u, or a known u -/
def Rd (H : Hp) (a : Addr) (u : HO) : Prop := H a = some u ∨ ∃ o, H a = some (.frz o u)
theorem Rd.of {H : Hp} {a : Addr} {u : HO} (h : H a = some u) : Rd H a u := .inl h
theorem Rd.ok {P : Program} {w : World} {H : Hp} {h : Heap} {a : Addr} {u : HO} (r : Rd H a u) (x : HOk P w H h) : ObjOk P w H h a u := by
  rcases r with r | ⟨o, r⟩
  · exact x a u r
  · obtain ⟨_, q⟩ := x a _ r
    exact q
/-- what may be written -/
def Mut : Option HO → Prop
  | some (.lst _) => True
  | some (.dK _) => True
  | some (.dT _) => True
  | some (.set _ _) => True
  | some (.ins _ _ _) => True
  | some (.ext _) => True
  | _ => False
section
variable {P : Program} {w : World} {H : Hp} {h h' : Heap} {x e : Addr} {o' : HO}
/-- the object at e is changed: x itself, or the dict of the instance x -/
theorem HOk.write (ok : HOk P w H h) (mu : Mut (H x)) (he : e = x ∨ H e = some (.own x)) (k : ∀ b u, b ≠ e → h.get? b = some u → h'.get? b = some u) (heo : ∃ u, h'.get? e = some u)
    (new : ObjOk P w (upd H x o') h' x o') : HOk P w (upd H x o') h' := fun b u q => by
  have nown : ∀ c y, H c = some (.own y) → c ≠ x := fun c y r z => by subst z; rw [r] at mu; exact mu
  have ntup : ∀ c xs, H c = some (.tup xs) → c ≠ x := fun c xs r z => by subst z; rw [r] at mu; exact mu
  by_cases hb : b = x
  · subst hb; rw [upd_same] at q; cases q; exact new
  · rw [upd_ne hb] at q
    by_cases hbe : b = e
    · have q' : H b = some (.own x) := by
        rcases he with z | z
        · exact absurd (hbe.trans z) hb
        · rw [hbe]; exact z
      rw [q] at q'; cases q'
      obtain ⟨v, hv⟩ := heo
      exact ⟨v, by rw [hbe]; exact hv⟩
    · refine (ok b u q).stay (fun c v hc r => k c v ?_ r) (fun c r => by rw [upd_ne (nown c b r)]; exact r) fun c xs r => by rw [upd_ne (ntup c xs r)]; exact r
      rcases hc with rfl | hc
      · exact hbe
      · rintro rfl
        rcases he with z | z
        · exact nown c b hc z
        · rw [hc] at z; cases z; exact hb rfl
end

/-! ### kept unless tracked; of the frames at fs (the callers') the slots may change (an exception that passes writes there); of the records at ex (iterators) nothing is said -/
structure Un (fs ex : List Addr) (H H' : Hp) (h h' : Heap) : Prop where
  keep : ∀ b o, h.get? b = some o → H b = none → b ∉ fs → b ∉ ex → h'.get? b = some o
  slot : ∀ b o, h.get? b = some o → H b = none → b ∈ fs → b ∉ ex → ∃ sl, h'.get? b = some { o with slots := sl }
  free : ∀ b o, h.get? b = some o → H b = none → b ∉ ex → H' b = none
  there : ∀ b o, h.get? b = some o → b ∉ ex → ∃ o', h'.get? b = some o'
  tups : ∀ b xs, H b = some (.tup xs) → H' b = some (.tup xs)
  frzs : ∀ b o u, H b = some (.frz o u) → H' b = some (.frz o u)
  tbls : ∀ b ps, H b = some (.tbl ps) → ∃ more, H' b = some (.tbl (ps ++ more))
section
variable {fs fs' ex ex' : List Addr} {H H1 H2 : Hp} {h h1 h2 h' : Heap} {a x e : Addr} {o : HO}
theorem Un.any (u : Un fs ex H H1 h h1) {b : Addr} {ob : Obj} (q : h.get? b = some ob) (n : H b = none) (hx : b ∉ ex) : ∃ sl, h1.get? b = some { ob with slots := sl } := by
  by_cases hb : b ∈ fs
  · exact u.slot b ob q n hb hx
  · exact ⟨ob.slots, u.keep b ob q n hb hx⟩
theorem Un.trans (a : Un fs ex H H1 h h1) (b : Un fs ex H1 H2 h1 h2) : Un fs ex H H2 h h2 where
  keep := fun c ob q n hc hx => b.keep c ob (a.keep c ob q n hc hx) (a.free c ob q n hx) hc hx
  slot := fun c ob q n hc hx => by
    obtain ⟨sl, e1⟩ := a.slot c ob q n hc hx
    obtain ⟨sl', e2⟩ := b.slot c _ e1 (a.free c ob q n hx) hc hx
    exact ⟨sl', e2⟩
  free := fun c ob q n hx => by
    obtain ⟨o', e1⟩ := a.there c ob q hx
    exact b.free c o' e1 (a.free c ob q n hx) hx
  there := fun c ob q hx => by
    obtain ⟨o', e1⟩ := a.there c ob q hx
    exact b.there c o' e1 hx
  tups := fun c xs q => b.tups c xs (a.tups c xs q)
  frzs := fun c ob xs q => b.frzs c ob xs (a.frzs c ob xs q)
  tbls := fun c ps q => by
    obtain ⟨m1, e1⟩ := a.tbls c ps q
    obtain ⟨m2, e2⟩ := b.tbls c _ e1
    exact ⟨m1 ++ m2, by rw [e2, Array.append_assoc]⟩
theorem Un.kept (k : ∀ b u, h.get? b = some u → h'.get? b = some u) : Un fs ex H H h h' :=
  ⟨fun b ob q _ _ _ => k b ob q, fun b ob q _ _ _ => ⟨ob.slots, k b ob q⟩, fun _ _ _ n _ => n, fun b ob q _ => ⟨ob, k b ob q⟩, fun _ _ q => q, fun _ _ _ q => q, fun _ ps q => ⟨#[], by rw [q]; simp⟩⟩
theorem Un.refl : Un fs ex H H h h := Un.kept fun _ _ q => q
theorem Un.laid (k : ∀ b u, h.get? b = some u → h'.get? b = some u) (hp : h.objs.size ≤ a) (hn : H a = none) : Un fs ex H (upd H a o) h h' where
  keep := fun b u q _ _ _ => k b u q
  slot := fun b u q _ _ _ => ⟨u.slots, k b u q⟩
  free := fun b u q n _ => by rw [upd_ne (Nat.ne_of_lt (Nat.lt_of_lt_of_le (Heap.lt_size q) hp))]; exact n
  there := fun b u q _ => ⟨u, k b u q⟩
  tups := fun b xs q => by rw [upd_ne (ne_of_none q hn)]; exact q
  frzs := fun b u xs q => by rw [upd_ne (ne_of_none q hn)]; exact q
  tbls := fun b ps q => ⟨#[], by rw [upd_ne (ne_of_none q hn), q]; simp⟩
theorem Un.write (mu : Mut (H x)) (he : e = x ∨ H e = some (.own x)) (k : ∀ b u, b ≠ e → h.get? b = some u → h'.get? b = some u) (heo : ∃ u, h'.get? e = some u) : Un fs ex H (upd H x o) h h' := by
  have hx : ∀ b, H b = none → b ≠ x := fun b n z => by subst z; rw [n] at mu; exact mu
  have hb : ∀ b, H b = none → b ≠ e := fun b n z => by
    subst z
    rcases he with r | r
    · exact hx b n r
    · rw [n] at r; cases r
  have hm : ∀ b u, H b = some u → ¬ Mut (some u) → b ≠ x := fun b u q nm z => by subst z; rw [q] at mu; exact nm mu
  refine ⟨fun b u q n _ _ => k b u (hb b n) q, fun b u q n _ _ => ⟨u.slots, k b u (hb b n) q⟩, fun b u q n _ => by rw [upd_ne (hx b n)]; exact n, fun b u q _ => ?_,
    fun b xs q => by rw [upd_ne (hm b _ q fun z => z)]; exact q, fun b u xs q => by rw [upd_ne (hm b _ q fun z => z)]; exact q, fun b ps q => ⟨#[], by rw [upd_ne (hm b _ q fun z => z), q]; simp⟩⟩
  by_cases hbe : b = e
  · subst hbe; exact heo
  · exact ⟨u, k b u hbe q⟩
theorem Un.mono (u : Un fs ex H H1 h h1) (hs : ∀ b ∈ fs, b ∈ fs') (hx : ∀ b ∈ ex, b ∈ ex') : Un fs' ex' H H1 h h1 :=
  ⟨fun b ob q n hb he => u.keep b ob q n (fun z => hb (hs b z)) fun z => he (hx b z), fun _ _ q n _ he => u.any q n fun z => he (hx _ z), fun b ob q n he => u.free b ob q n fun z => he (hx b z), fun b ob q he => u.there b ob q fun z => he (hx b z), u.tups, u.frzs, u.tbls⟩
end

/-! ### the heap without what is tracked -/
def trk (h : Heap) (H : Hp) : List Addr := (List.range h.objs.size).filter fun a => (H a).isSome
def hidT (h : Heap) (H : Hp) : Heap := PySem.W.hideAll h (trk h H)
theorem hidT_size (h : Heap) (H : Hp) : (hidT h H).objs.size = h.objs.size := PySem.W.hideAll_size _ _
theorem hidT_get {h : Heap} {H : Hp} {b : Addr} {o : Obj} (e : h.get? b = some o) (n : H b = none) : (hidT h H).get? b = some o :=
  PySem.W.hideAll_get _ e fun hm => by
    have q : (H b).isSome = true := (List.mem_filter.mp hm).2
    rw [n] at q; simp at q
theorem of_hidT {h : Heap} {H : Hp} {b : Addr} {o : Obj} (e : (hidT h H).get? b = some o) : h.get? b = some o ∧ H b = none := by
  have e' : h.get? b = some o := PySem.W.of_hideAll (trk h H) e
  refine ⟨e', ?_⟩
  cases q : H b with
  | none => rfl
  | some x =>
    have hm : b ∈ trk h H := List.mem_filter.mpr ⟨List.mem_range.mpr (Heap.lt_size e'), by simp [q]⟩
    have z : (hidT h H).get? b = none := PySem.W.hideAll_none (trk h H) hm
    rw [z] at e; cases e

/-! ### OpenK's ledger, filled with every new object but one -/
def allNews (g h : Heap) (L : Addr) : List (Addr × Obj) := (List.range h.objs.size).filterMap fun a => if a = L ∨ (g.get? a).isSome = true then none else (h.get? a).map fun o => (a, o)
def rest (g h : Heap) (L d : Addr) : List (Addr × Obj) := (allNews g h L).filter fun p => decide (p.1 ≠ d)
end L2

namespace L2
open PySem PySem.Spec PyProof.Rows

/-- the module's facts, over the base: the heap at the law's entry without what is tracked there -/
structure Mod (K : PySem.W.Frag) (mg : Str → Option Value) (base : Heap) : Prop where
  kin : K.In base
  glob : base.Ns mainGlobals mg
  blt : ∃ mb, base.Ns builtinsNs mb ∧ ∀ x : Str, x ≠ "__name__" → mb x = bootBuiltins x
  nolimit : base.NoLimit

/-- the context: a def's body (or a comprehension's block) running. base: fixed through the whole law; s₀, H₀: the entry; outer: the frames whose slots others may change (a def's callers); stack: all frames that run;
   ex: iterators that were made ahead of the entry and are walked here (a comprehension's); fn: the names whose cells were made at the entry (a def: all; a comprehension's block: its own); calm: not within an except suite; pn: pins that every state bears; xe: what is wanted of an exception that leaves the code -/
structure Cx where
  prog : Program
  w : World
  K : PySem.W.Frag
  mg : Str → Option Value
  base : Heap
  A : Around
  N : List Str
  s₀ : Shared
  H₀ : Hp
  env : Env
  outer : List Env
  stack : List Env
  ex : List Addr
  fn : Str → Bool
  calm : Bool
  pn : List (Addr × Obj)
  xe : Value → Shared → Prop
/-- the callers' frames -/
def frs (l : List Env) : List Addr := l.filterMap (·.frame)
abbrev Cx.fs (X : Cx) : List Addr := frs X.outer

def Vis (sc : Scope) (x : Str) : Prop := sc.names.lookup x = some .local ∨ sc.names.lookup x = some .cell ∨ sc.names.lookup x = some .free
def Loc (sc : Scope) (x : Str) : Prop := sc.names.lookup x = some .local ∨ sc.names.lookup x = some .cell
def Look (env : Env) (h : Heap) (m : Str → Option Value) (x : Str) (u : Value) : Prop :=
  (env.kindOf x = some .local ∧ m x = some u) ∨ ((env.kindOf x = some .cell ∨ env.kindOf x = some .free) ∧ ∃ c, env.cells.lookup x = some c ∧ h.IsCell c (some u))

structure Cx.Ok (X : Cx) : Prop where
  mod : Mod X.K X.mg X.base
  kind : X.env.scope.kind = .function
  glob : X.env.globals = mainGlobals
  blt : X.env.builtins = builtinsNs
  above : X.s₀.heap.objs.size ≤ X.env.locals
  inj : ∀ x y c, X.env.cells.lookup x = some c → X.env.cells.lookup y = some c → x = y
  has : ∀ x, (X.env.kindOf x = some .cell ∨ X.env.kindOf x = some .free) → ∃ c, X.env.cells.lookup x = some c
  cab : ∀ x c, X.fn x = true → X.env.cells.lookup x = some c → X.s₀.heap.objs.size ≤ c
  hd : X.calm = true → X.A.handled = none
  frames : X.A.frames = some X.stack
  stk : X.stack = X.outer ∨ (X.stack = X.env :: X.outer ∧ X.env.frame = some X.env.locals)
  exf : ∀ b ∈ X.ex, b ≠ X.env.locals ∧ ∀ x c, X.env.cells.lookup x = some c → c ≠ b
  bs : ∀ b o, X.base.get? b = some o → X.s₀.heap.get? b = some o ∧ X.H₀ b = none
  bsz : X.base.objs.size ≤ X.s₀.heap.objs.size
  noex : ∀ b o, X.base.get? b = some o → b ∉ X.ex
  exfs : ∀ b ∈ X.ex, b ∉ X.fs
  funs : X.s₀.heap.FunFrames X.base X.outer
  frf : ∀ b ∈ X.fs, X.H₀ b = none

structure Inv (X : Cx) (pins : List (Addr × Obj)) (σ : List (Option V)) (H : Hp) (s : Shared) : Prop where
  ok : X.Ok
  os : s.os = X.s₀.os
  bare : AllBare s.gens
  base : Un X.fs X.ex X.H₀ H X.s₀.heap s.heap
  loc : ∃ m, s.heap.Ns X.env.locals m ∧ ∀ (i : Nat) (x : Str) (v : V), X.N[i]? = some x → σ[i]? = some (some v) → Vis X.env.scope x → ∃ u, RelV v u ∧ Look X.env s.heap m x u
  cell : ∀ x c, X.env.cells.lookup x = some c → ∃ v, s.heap.IsCell c v
  free : H X.env.locals = none
  freeC : ∀ x c, X.env.cells.lookup x = some c → H c = none
  pin : ∀ p ∈ X.pn ++ pins, s.heap.get? p.1 = some p.2 ∧ H p.1 = none ∧ p.1 ≠ X.env.locals ∧ p.1 ∉ X.fs ∧ ∀ v, p.2.data ≠ .cell v
  hok : HOk X.prog X.w H s.heap
  len : σ.length = X.N.length

section
variable {X : Cx} {pins : List (Addr × Obj)} {σ : List (Option V)} {H H' : Hp} {s : Shared} {h' : Heap}

theorem Cx.Ok.nofr (ok : X.Ok) {b : Addr} {o : Obj} (e : X.base.get? b = some o) : b ∉ X.fs := fun hb => by
  have := (ok.funs.mem hb).1
  rw [e] at this; cases this
theorem Inv.bs (I : Inv X pins σ H s) : ∀ b o, X.base.get? b = some o → s.heap.get? b = some o ∧ H b = none := fun b o e =>
  ⟨I.base.keep b o (I.ok.bs b o e).1 (I.ok.bs b o e).2 (I.ok.nofr e) (I.ok.noex b o e), I.base.free b o (I.ok.bs b o e).1 (I.ok.bs b o e).2 (I.ok.noex b o e)⟩
theorem Inv.bk (I : Inv X pins σ H s) : ∀ b o, X.base.get? b = some o → s.heap.get? b = some o := fun b o e => (I.bs b o e).1
theorem Inv.mod (I : Inv X pins σ H s) : Mod X.K X.mg X.base := I.ok.mod
theorem Inv.kIn (I : Inv X pins σ H s) : X.K.In s.heap := I.ok.mod.kin.keeps I.bk
theorem Inv.nolimit (I : Inv X pins σ H s) : s.heap.NoLimit := I.ok.mod.nolimit.keeps I.bk
/-- the frame over the base: for OpenK's rules (K.In X.base is I.mod.kin) -/
theorem Inv.fr (I : Inv X pins σ H s) : ∃ m, Fr X.base X.env.locals s.heap m :=
  let ⟨m, hn, _⟩ := I.loc
  ⟨m, hn, I.bk, Nat.le_trans I.ok.bsz I.ok.above⟩
theorem Inv.lt (I : Inv X pins σ H s) : X.env.locals < s.heap.objs.size := let ⟨_, hn, _⟩ := I.loc; hn.lt
theorem Inv.sz (I : Inv X pins σ H s) : X.s₀.heap.objs.size ≤ s.heap.objs.size := Nat.le_trans I.ok.above (Nat.le_of_lt I.lt)
theorem Inv.nofs (I : Inv X pins σ H s) {a : Addr} (h : s.heap.objs.size ≤ a) : a ∉ X.fs := fun hb => by
  obtain ⟨_, o, ho, _⟩ := I.ok.funs.mem hb
  exact absurd (Nat.lt_of_lt_of_le (Heap.lt_size ho) (Nat.le_trans I.sz h)) (Nat.lt_irrefl _)
theorem Inv.cne (I : Inv X pins σ H s) : ∀ x c, X.env.cells.lookup x = some c → c ≠ X.env.locals := fun x c e z => by
  obtain ⟨v, o, ho, hd⟩ := I.cell x c e
  obtain ⟨m, ⟨o', es, ep, ho', hd', _⟩, _⟩ := I.loc
  rw [z, ho'] at ho; cases ho; rw [hd'] at hd; cases hd
theorem Inv.funs (I : Inv X pins σ H s) : s.heap.FunFrames X.base X.outer := by
  have all : ∀ (l : List Env), (∀ b ∈ frs l, b ∈ X.fs) → X.s₀.heap.FunFrames X.base l → s.heap.FunFrames X.base l := by
    intro l
    induction l with
    | nil => intro _ _; trivial
    | cons env r ih =>
      intro hs hl
      obtain ⟨hk, ⟨L, o, hf, hn, ho, hd⟩, hr⟩ := hl
      have hL : L ∈ X.fs := hs L (by unfold frs; rw [List.filterMap_cons, hf]; exact List.mem_cons_self)
      obtain ⟨sl, e⟩ := I.base.slot L o ho (I.ok.frf L hL) hL fun z => I.ok.exfs L z hL
      exact ⟨hk, ⟨L, _, hf, hn, e, hd⟩, ih (fun b hb => hs b (by unfold frs; rw [List.filterMap_cons, hf]; exact List.mem_cons_of_mem _ hb)) hr⟩
  exact all X.outer (fun _ hb => hb) I.ok.funs

/-- the frames that run, for a call -/
theorem Inv.stack (I : Inv X pins σ H s) : s.heap.FunFrames X.base X.stack := by
  rcases I.ok.stk with e | ⟨e, hf⟩
  · rw [e]; exact I.funs
  · rw [e]
    obtain ⟨m, hn, _⟩ := I.loc
    refine .cons (by rw [I.ok.kind]; decide) hf hn ?_ I.funs
    exact Heap.get?_none_of_le (Nat.le_trans I.ok.bsz I.ok.above)
theorem Inv.stkSub (I : Inv X pins σ H s) : ∀ b ∈ frs X.stack, b ∈ X.env.locals :: X.fs := fun b hb => by
  rcases I.ok.stk with e | ⟨e, hf⟩
  · rw [e] at hb; exact List.mem_cons_of_mem _ hb
  · rw [e] at hb
    unfold frs at hb
    rw [List.filterMap_cons, hf] at hb
    exact hb
theorem Inv.stkFree (I : Inv X pins σ H s) : ∀ b ∈ frs X.stack, H b = none := fun b hb => by
  rcases List.mem_cons.mp (I.stkSub b hb) with e | hb
  · rw [e]; exact I.free
  · obtain ⟨_, o, ho, _⟩ := I.ok.funs.mem hb
    exact I.base.free b o ho (I.ok.frf b hb) fun z => I.ok.exfs b z hb

/-- THE STEP: the untracked objects but the frame and the records at ch are kept (the callers' frames up to slots), the frame's map is kept, the new abstract heap is held -/
theorem Inv.step {g' : Array GenState} {t' : Nat} {d' : Drawn} {ch : List Addr} (I : Inv X pins σ H s)
    (hch : ∀ b ∈ ch, (b ∈ X.ex ∨ X.s₀.heap.objs.size ≤ b) ∧ b ≠ X.env.locals ∧ (∀ x c, X.env.cells.lookup x = some c → c ≠ b) ∧ ∀ p ∈ X.pn ++ pins, p.1 ≠ b)
    (keep : ∀ b o, b ≠ X.env.locals → b ∉ X.fs → b ∉ ch → s.heap.get? b = some o → H b = none → h'.get? b = some o)
    (slot : ∀ b o, b ≠ X.env.locals → b ∈ X.fs → b ∉ ch → s.heap.get? b = some o → H b = none → ∃ sl, h'.get? b = some { o with slots := sl }) (free : ∀ b o, b ∉ ch → s.heap.get? b = some o → H b = none → H' b = none)
    (there : ∀ b o, b ∉ ch → s.heap.get? b = some o → ∃ o', h'.get? b = some o')
    (tups : ∀ b xs, H b = some (.tup xs) → H' b = some (.tup xs)) (frzs : ∀ b o u, H b = some (.frz o u) → H' b = some (.frz o u)) (tbls : ∀ b ps, H b = some (.tbl ps) → ∃ more, H' b = some (.tbl (ps ++ more)))
    (ns : ∀ m, s.heap.Ns X.env.locals m → h'.Ns X.env.locals m) (hok : HOk X.prog X.w H' h') (hg : AllBare g') :
    Inv X pins σ H' { s with heap := h', gens := g', drawn := d', toks := t' } := by
  have neL : ∀ b o, X.s₀.heap.get? b = some o → b ≠ X.env.locals := fun b o e => Nat.ne_of_lt (Nat.lt_of_lt_of_le (Heap.lt_size e) I.ok.above)
  have neC : ∀ b o, X.s₀.heap.get? b = some o → b ∉ X.ex → b ∉ ch := fun b o e hx hb => by
    rcases (hch b hb).1 with z | z
    · exact hx z
    · exact absurd (Nat.lt_of_lt_of_le (Heap.lt_size e) z) (Nat.lt_irrefl _)
  have cellK : ∀ x c, X.env.cells.lookup x = some c → ∀ v, s.heap.IsCell c v → h'.IsCell c v := fun x c e v ⟨o, ho, hd⟩ => by
    have nch : c ∉ ch := fun z => (hch c z).2.2.1 x c e rfl
    by_cases hc : c ∈ X.fs
    · obtain ⟨sl, q⟩ := slot c o (I.cne x c e) hc nch ho (I.freeC x c e)
      exact ⟨_, q, hd⟩
    · exact ⟨o, keep c o (I.cne x c e) hc nch ho (I.freeC x c e), hd⟩
  refine ⟨I.ok, I.os, hg, ⟨fun b o e n hb hx => ?_, fun b o e n hb hx => ?_, fun b o e n hx => ?_, fun b o e hx => ?_, fun b xs e => tups b xs (I.base.tups b xs e), fun b o xs e => frzs b o xs (I.base.frzs b o xs e), fun b ps e => ?_⟩, ?_, fun x c e => ?_, ?_, fun x c e => ?_, fun p hp => ?_, hok, I.len⟩
  · exact keep b o (neL b o e) hb (neC b o e hx) (I.base.keep b o e n hb hx) (I.base.free b o e n hx)
  · obtain ⟨sl, e1⟩ := I.base.slot b o e n hb hx
    obtain ⟨sl', e2⟩ := slot b _ (neL b o e) hb (neC b o e hx) e1 (I.base.free b o e n hx)
    exact ⟨sl', e2⟩
  · obtain ⟨o', e1⟩ := I.base.there b o e hx
    exact free b o' (neC b o e hx) e1 (I.base.free b o e n hx)
  · obtain ⟨o', e1⟩ := I.base.there b o e hx
    exact there b o' (neC b o e hx) e1
  · obtain ⟨m1, e1⟩ := I.base.tbls b ps e
    obtain ⟨m2, e2⟩ := tbls b _ e1
    exact ⟨m1 ++ m2, by rw [e2, Array.append_assoc]⟩
  · obtain ⟨m, hn, hl⟩ := I.loc
    refine ⟨m, ns m hn, fun i x v e1 e2 e3 => ?_⟩
    obtain ⟨u, r, l⟩ := hl i x v e1 e2 e3
    refine ⟨u, r, ?_⟩
    rcases l with l | ⟨k, c, e, z⟩
    · exact .inl l
    · exact .inr ⟨k, c, e, cellK x c e _ z⟩
  · obtain ⟨v, z⟩ := I.cell x c e
    exact ⟨v, cellK x c e v z⟩
  · obtain ⟨m, ⟨o, _, _, ho, _⟩, _⟩ := I.loc
    exact free _ o (fun z => (hch _ z).2.1 rfl) ho I.free
  · obtain ⟨v, o, ho, hd⟩ := I.cell x c e
    exact free c o (fun z => (hch c z).2.2.1 x c e rfl) ho (I.freeC x c e)
  · obtain ⟨e, n, ne, nf, d⟩ := I.pin p hp
    have nch : p.1 ∉ ch := fun z => (hch p.1 z).2.2.2 p hp rfl
    exact ⟨keep p.1 p.2 ne nf nch e n, free p.1 p.2 nch e n, ne, nf, d⟩
/-- .. where the frame's own object is kept too -/
theorem Inv.un {t' : Nat} (I : Inv X pins σ H s) (u : Un X.fs [] H H' s.heap h') (hok : HOk X.prog X.w H' h') : Inv X pins σ H' { s with heap := h', toks := t' } := by
  obtain ⟨m, ⟨o, es, ep, ho, r⟩, _⟩ := id I.loc
  obtain ⟨sl, hL⟩ := u.any ho I.free (by simp)
  exact I.step (g' := s.gens) (d' := s.drawn) (ch := []) (fun _ z => nomatch z) (fun b o _ hb _ e n => u.keep b o e n hb (by simp)) (fun b o _ hb _ e n => u.slot b o e n hb (by simp)) (fun b o _ e n => u.free b o e n (by simp)) (fun b o _ e => u.there b o e (by simp)) u.tups u.frzs u.tbls (fun m' hm => by
    obtain ⟨o', es', ep', ho', r'⟩ := hm
    rw [ho] at ho'; cases ho'
    exact ⟨_, es', ep', hL, r'⟩) hok I.bare
/-- behind a call (or a comprehension's block): the slots of this frame may have changed too, the records at ch may have turned -/
theorem Inv.call {g' : Array GenState} {t' : Nat} {d' : Drawn} {ch : List Addr} (I : Inv X pins σ H s) (u : Un (frs X.stack) ch H H' s.heap h') (hok : HOk X.prog X.w H' h') (hg : AllBare g')
    (hch : ∀ b ∈ ch, (b ∈ X.ex ∨ X.s₀.heap.objs.size ≤ b) ∧ b ≠ X.env.locals ∧ (∀ x c, X.env.cells.lookup x = some c → c ≠ b) ∧ ∀ p ∈ X.pn ++ pins, p.1 ≠ b) :
    Inv X pins σ H' { s with heap := h', gens := g', drawn := d', toks := t' } := by
  obtain ⟨m, ⟨o, es, ep, ho, r⟩, _⟩ := id I.loc
  obtain ⟨sl, hL⟩ := u.any ho I.free fun z => (hch _ z).2.1 rfl
  exact I.step (ch := ch) hch (fun b o hL hb hc e n => u.keep b o e n (fun z => (List.mem_cons.mp (I.stkSub b z)).elim hL hb) hc) (fun b o _ _ hc e n => u.any e n hc) (fun b o hc e n => u.free b o e n hc) (fun b o hc e => u.there b o e hc) u.tups u.frzs u.tbls (fun m' hm => by
    obtain ⟨o', es', ep', ho', r'⟩ := hm
    rw [ho] at ho'; cases ho'
    exact ⟨_, es', ep', hL, r'⟩) hok hg
/-- an untracked record of ours (an iterator) has turned -/
theorem Inv.turned {t' : Nat} {it : Addr} (I : Inv X pins σ H s) (k : ∀ b o, b ≠ it → s.heap.get? b = some o → h'.get? b = some o) (hn : H it = none) (hL : it ≠ X.env.locals)
    (h1 : it ∈ X.ex ∨ X.s₀.heap.objs.size ≤ it) (h2 : ∀ x c, X.env.cells.lookup x = some c → c ≠ it) (h3 : ∀ p ∈ X.pn ++ pins, p.1 ≠ it) : Inv X pins σ H { s with heap := h', toks := t' } := by
  have nit : ∀ b u, H b = some u → b ≠ it := fun b u e z => by rw [z, hn] at e; cases e
  refine I.step (g' := s.gens) (d' := s.drawn) (ch := [it]) (fun b hb => ?_) (fun b o _ _ hc e _ => k b o (fun z => hc (by simp [z])) e) (fun b o _ _ hc e _ => ⟨o.slots, k b o (fun z => hc (by simp [z])) e⟩) (fun _ _ _ _ n => n)
    (fun b o hc e => ⟨o, k b o (fun z => hc (by simp [z])) e⟩) (fun _ _ e => e) (fun _ _ _ e => e) (fun b ps e => ⟨#[], by rw [e]; simp⟩) (fun m hm => ?_) (fun b u e => ?_) I.bare
  · have e : b = it := by simpa using hb
    subst e
    exact ⟨h1, hL, h2, h3⟩
  · obtain ⟨o, es, ep, ho, r⟩ := hm
    exact ⟨o, es, ep, k _ o (Ne.symm hL) ho, r⟩
  · refine (I.hok b u e).stay (fun c v hc q => k c v ?_ q) (fun _ q => q) fun _ _ q => q
    rcases hc with z | z
    · rw [z]; exact nit b u e
    · exact nit c _ z
theorem Inv.tok (I : Inv X pins σ H s) (t : Nat) : Inv X pins σ H { s with toks := t } := I.un (h' := s.heap) (t' := t) Un.refl I.hok
/-- all objects kept -/
theorem Inv.kept {t' : Nat} (I : Inv X pins σ H s) (k : ∀ b u, s.heap.get? b = some u → h'.get? b = some u) : Inv X pins σ H { s with heap := h', toks := t' } := I.un (Un.kept k) (I.hok.kept k)
/-- a new object laid and tracked -/
theorem Inv.laid {a : Addr} {o : HO} {t' : Nat} (I : Inv X pins σ H s) (k : ∀ b u, s.heap.get? b = some u → h'.get? b = some u) (hp : s.heap.objs.size ≤ a) (new : ObjOk X.prog X.w (upd H a o) h' a o) :
    Inv X pins σ (upd H a o) { s with heap := h', toks := t' } := I.un (Un.laid k hp (I.hok.fresh hp)) (I.hok.laid k hp new)
/-- an object written -/
theorem Inv.write {x e : Addr} {o : HO} {t' : Nat} (I : Inv X pins σ H s) (mu : Mut (H x)) (he : e = x ∨ H e = some (.own x)) (k : ∀ b u, b ≠ e → s.heap.get? b = some u → h'.get? b = some u) (heo : ∃ u, h'.get? e = some u)
    (new : ObjOk X.prog X.w (upd H x o) h' x o) : Inv X pins σ (upd H x o) { s with heap := h', toks := t' } := I.un (Un.write mu he k heo) (I.hok.write mu he k heo new)
theorem Inv.pins_of {pins' : List (Addr × Obj)} (I : Inv X pins σ H s) (h : ∀ p ∈ pins', s.heap.get? p.1 = some p.2 ∧ H p.1 = none ∧ p.1 ≠ X.env.locals ∧ p.1 ∉ X.fs ∧ ∀ v, p.2.data ≠ .cell v) : Inv X pins' σ H s :=
  ⟨I.ok, I.os, I.bare, I.base, I.loc, I.cell, I.free, I.freeC, fun p hp => (List.mem_append.mp hp).elim (fun z => I.pin p (List.mem_append_left _ z)) (h p), I.hok, I.len⟩

theorem nodup_ix {N : List Str} (hN : N.Nodup) {i j : Nat} {x : Str} (a : N[i]? = some x) (b : N[j]? = some x) : i = j := by
  obtain ⟨h1, e1⟩ := List.getElem?_eq_some_iff.mp a
  obtain ⟨h2, e2⟩ := List.getElem?_eq_some_iff.mp b
  exact (List.getElem_inj hN).mp (e1.trans e2.symm)

/-- a name is stored; what changed -/
theorem store_ok2 {M : Model} {A : Around} {E : Value → Shared → Prop} {i : Nat} {x : Str} {v : V} {u : Value} {Q : Unit → Shared → Prop} (I : Inv X pins σ H s) (hN : X.N.Nodup) (hi : X.N[i]? = some x) (hx : Loc X.env.scope x) (r : RelV v u)
    (h : ∀ s', Inv X pins (σ.set i (some v)) H s' → (∃ a, Heap.SameBut a s.heap s'.heap ∧ (a = X.env.locals ∨ X.env.cells.lookup x = some a)) → Q () s') (hf : X.fn x = true ∨ X.env.scope.names.lookup x = some .local := by first | exact .inl rfl | exact .inr rfl | assumption) : wpAny M A (storeName X.env x u) Q E s := by
  obtain ⟨m, hn, hl⟩ := id I.loc
  have hcls : (X.env.scope.kind == .class || (X.env.scope.kind == .module && X.env.locals != X.env.globals)) = false := by rw [I.ok.kind]; rfl
  have hiσ : i < σ.length := by rw [I.len]; exact (List.getElem?_eq_some_iff.mp hi).1
  have cne := I.cne
  have tracked : ∀ {a : Addr} {h' : Heap}, (∃ o, s.heap.get? a = some o ∧ H a = none) → Heap.SameBut a s.heap h' → HOk X.prog X.w H h' := fun {a h'} ha hs b ob e => by
    obtain ⟨_, _, hfree⟩ := ha
    refine (I.hok b ob e).stay (fun c w' hc q => (hs.2 c ?_).trans q) (fun _ q => q) fun _ _ q => q
    rintro rfl
    rcases hc with rfl | hc
    · rw [hfree] at e; cases e
    · rw [hfree] at hc; cases hc
  rcases hx with hk | hk
  · refine wpAny_storeName_local hk hn (fun h' hn' hs => ?_) hcls
    obtain ⟨oL, _, _, hoL, _⟩ := id hn
    refine h _ ⟨I.ok, I.os, I.bare, ⟨fun b o e n hb hx => ?_, fun b o e n hb hx => ?_, I.base.free, fun b o e hx => ?_, I.base.tups, I.base.frzs, I.base.tbls⟩, ⟨_, hn', fun j y v' e1 e2 e3 => ?_⟩, fun y c e => ?_, I.free, I.freeC, fun p hp => ?_, tracked ⟨oL, hoL, I.free⟩ hs, by simpa using I.len⟩ ⟨_, hs, .inl rfl⟩
    · exact (hs.2 b (Nat.ne_of_lt (Nat.lt_of_lt_of_le (Heap.lt_size e) I.ok.above))).trans (I.base.keep b o e n hb hx)
    · obtain ⟨sl, e1⟩ := I.base.slot b o e n hb hx
      exact ⟨sl, (hs.2 b (Nat.ne_of_lt (Nat.lt_of_lt_of_le (Heap.lt_size e) I.ok.above))).trans e1⟩
    · obtain ⟨o', e1⟩ := I.base.there b o e hx
      exact ⟨o', (hs.2 b (Nat.ne_of_lt (Nat.lt_of_lt_of_le (Heap.lt_size e) I.ok.above))).trans e1⟩
    · by_cases hj : j = i
      · subst hj
        rw [hi] at e1; cases e1
        rw [List.getElem?_set_self hiσ] at e2
        cases e2
        exact ⟨u, r, .inl ⟨hk, by simp⟩⟩
      · rw [List.getElem?_set_ne (Ne.symm hj)] at e2
        obtain ⟨u', r', q⟩ := hl j y v' e1 e2 e3
        refine ⟨u', r', ?_⟩
        rcases q with ⟨k, e⟩ | ⟨k, c, e, z⟩
        · refine .inl ⟨k, ?_⟩
          have : y ≠ x := fun e => hj (nodup_ix hN e1 (e ▸ hi))
          simp [this, e]
        · exact .inr ⟨k, c, e, z.sameBut hs (cne y c e)⟩
    · obtain ⟨w', z⟩ := I.cell y c e
      exact ⟨w', z.sameBut hs (cne y c e)⟩
    · obtain ⟨e, n, ne, nf, d⟩ := I.pin p hp
      exact ⟨(hs.2 p.1 ne).trans e, n, ne, nf, d⟩
  · have hfn : X.fn x = true := by
      rcases hf with z | z
      · exact z
      · rw [z] at hk; cases hk
    obtain ⟨c, hc⟩ := I.ok.has x (.inl hk)
    obtain ⟨w', z⟩ := I.cell x c hc
    refine wpAny_storeName_cell I.ok.kind hk hc z (fun h' hc' hs => ?_)
    obtain ⟨oc, hoc, hocd⟩ := id z
    refine h { s with heap := h' } ⟨I.ok, I.os, I.bare, ⟨fun b o e n hb hx => ?_, fun b o e n hb hx => ?_, I.base.free, fun b o e hx => ?_, I.base.tups, I.base.frzs, I.base.tbls⟩, ⟨m, hn.sameBut hs (Ne.symm (cne x c hc)), fun j y v' e1 e2 e3 => ?_⟩, fun y c' e => ?_, I.free, I.freeC, fun p hp => ?_, tracked ⟨oc, hoc, I.freeC x c hc⟩ hs, by simpa using I.len⟩ ⟨c, hs, .inr hc⟩
    · exact (hs.2 b (Nat.ne_of_lt (Nat.lt_of_lt_of_le (Heap.lt_size e) (I.ok.cab x c hfn hc)))).trans (I.base.keep b o e n hb hx)
    · obtain ⟨sl, e1⟩ := I.base.slot b o e n hb hx
      exact ⟨sl, (hs.2 b (Nat.ne_of_lt (Nat.lt_of_lt_of_le (Heap.lt_size e) (I.ok.cab x c hfn hc)))).trans e1⟩
    · obtain ⟨o', e1⟩ := I.base.there b o e hx
      exact ⟨o', (hs.2 b (Nat.ne_of_lt (Nat.lt_of_lt_of_le (Heap.lt_size e) (I.ok.cab x c hfn hc)))).trans e1⟩
    · by_cases hj : j = i
      · subst hj
        rw [hi] at e1; cases e1
        rw [List.getElem?_set_self hiσ] at e2
        cases e2
        exact ⟨u, r, .inr ⟨.inl hk, c, hc, hc'⟩⟩
      · rw [List.getElem?_set_ne (Ne.symm hj)] at e2
        obtain ⟨u', r', q⟩ := hl j y v' e1 e2 e3
        refine ⟨u', r', ?_⟩
        rcases q with q | ⟨k, c', e, z'⟩
        · exact .inl q
        · refine .inr ⟨k, c', e, z'.sameBut hs ?_⟩
          rintro rfl
          exact hj (nodup_ix hN e1 (I.ok.inj _ _ _ e hc ▸ hi))
    · by_cases hcc : c' = c
      · subst hcc; exact ⟨_, hc'⟩
      · obtain ⟨w2, z2⟩ := I.cell y c' e
        exact ⟨w2, z2.sameBut hs hcc⟩
    · obtain ⟨e, n, ne, nf, d⟩ := I.pin p hp
      refine ⟨(hs.2 p.1 ?_).trans e, n, ne, nf, d⟩
      intro q
      rw [q, hoc] at e
      have q' : oc = p.2 := Option.some.inj e
      exact d w' (by rw [← q']; exact hocd)
theorem store_ok {M : Model} {A : Around} {E : Value → Shared → Prop} {i : Nat} {x : Str} {v : V} {u : Value} {Q : Unit → Shared → Prop} (I : Inv X pins σ H s) (hN : X.N.Nodup) (hi : X.N[i]? = some x) (hx : Loc X.env.scope x) (r : RelV v u)
    (h : ∀ s', Inv X pins (σ.set i (some v)) H s' → Q () s') (hf : X.fn x = true ∨ X.env.scope.names.lookup x = some .local := by first | exact .inl rfl | exact .inr rfl | assumption) : wpAny M A (storeName X.env x u) Q E s :=
  store_ok2 I hN hi hx r (fun s' I' _ => h s' I') hf
/-- behind a call or a block, the state as it is -/
theorem Inv.call' {s' : Shared} {ch : List Addr} (I : Inv X pins σ H s) (ho : s'.os = s.os) (u : Un (frs X.stack) ch H H' s.heap s'.heap) (hok : HOk X.prog X.w H' s'.heap) (hg : AllBare s'.gens)
    (hch : ∀ b ∈ ch, (b ∈ X.ex ∨ X.s₀.heap.objs.size ≤ b) ∧ b ≠ X.env.locals ∧ (∀ x c, X.env.cells.lookup x = some c → c ≠ b) ∧ ∀ p ∈ X.pn ++ pins, p.1 ≠ b) : Inv X pins σ H' s' := by
  obtain ⟨h', g', d', t', o'⟩ := s'
  have e : o' = s.os := ho
  subst e
  exact I.call (g' := g') (t' := t') (d' := d') u hok hg hch
end

/-! ### the judgements -/
/-- an exception: its class, its own dict's address (where it has one), the abstract heap behind it -/
abbrev XK := Value → Option Addr → Hp → Prop
abbrev St := List (Option V)
abbrev VK := V → Hp → Prop
/-- an expression's reading; a test's; an argument list's -/
abbrev TE := St → Hp → VK → Prop
abbrev TT := St → Hp → (Bool → Hp → Prop) → Prop
abbrev TA := St → Hp → (List V → Hp → Prop) → Prop
/-- what is wanted behind a statement -/
structure Ends where
  nx : St → Hp → Prop
  rt : VK
  bk : St → Hp → Prop := fun _ _ => False
  ct : St → Hp → Prop := fun _ _ => False
abbrev TS := Ends → St → Hp → Prop

def EP (X : Cx) (pins : List (Addr × Obj)) (σ : St) (Q : VK) (u : Value) (s' : Shared) : Prop := ∃ v H', Inv X pins σ H' s' ∧ RelV v u ∧ Q v H'
def TP (X : Cx) (pins : List (Addr × Obj)) (σ : St) (Q : Bool → Hp → Prop) (b : Bool) (s' : Shared) : Prop := ∃ H', Inv X pins σ H' s' ∧ Q b H'
def AP (X : Cx) (pins : List (Addr × Obj)) (σ : St) (Q : List V → Hp → Prop) (us : List Value) (s' : Shared) : Prop := ∃ vs H', Inv X pins σ H' s' ∧ Vals vs us ∧ Q vs H'
def SP (X : Cx) (pins : List (Addr × Obj)) (D : Ends) (f : Flow) (s' : Shared) : Prop :=
  match f with
  | .next => ∃ σ' H', Inv X pins σ' H' s' ∧ D.nx σ' H'
  | .brk => ∃ σ' H', Inv X pins σ' H' s' ∧ D.bk σ' H'
  | .cont => ∃ σ' H', Inv X pins σ' H' s' ∧ D.ct σ' H'
  | .ret u => ∃ v σ' H', Inv X pins σ' H' s' ∧ RelV v u ∧ D.rt v H'

def PE (X : Cx) (e : Expr) (t : TE) : Prop :=
  ∀ (pins : List (Addr × Obj)) (s : Shared) (σ : St) (H : Hp) (Q : VK), Inv X pins σ H s → t σ H Q → wpAny (model X.prog X.w) X.A (eval e X.env) (EP X pins σ Q) X.xe s
def PT (X : Cx) (e : Expr) (t : TT) : Prop :=
  ∀ (pins : List (Addr × Obj)) (s : Shared) (σ : St) (H : Hp) (Q : Bool → Hp → Prop), Inv X pins σ H s → t σ H Q → wpAny (model X.prog X.w) X.A (isTrue e X.env (eval e X.env)) (TP X pins σ Q) X.xe s
/-- a test whatever its 'whole' is (and, or) -/
def PW (X : Cx) (e : Expr) (t : TT) : Prop :=
  ∀ (whole : Sem Value) (pins : List (Addr × Obj)) (s : Shared) (σ : St) (H : Hp) (Q : Bool → Hp → Prop), Inv X pins σ H s → t σ H Q → wpAny (model X.prog X.w) X.A (isTrue e X.env whole) (TP X pins σ Q) X.xe s
theorem PW.pt {X : Cx} {e : Expr} {t : TT} (h : PW X e t) : PT X e t := h _
/-- an argument list (no star), from the left -/
def PA (X : Cx) (es : List Expr) (t : TA) : Prop :=
  ∀ (pos : Pos) (pins : List (Addr × Obj)) (s : Shared) (σ : St) (H : Hp) (Q : List V → Hp → Prop), Inv X pins σ H s → t σ H Q → wpAny (model X.prog X.w) X.A (spliced (backTo pos (starEach es X.env))) (AP X pins σ Q) X.xe s
def PS (X : Cx) (st : Stmt) (t : TS) : Prop :=
  ∀ (pins : List (Addr × Obj)) (s : Shared) (σ : St) (H : Hp) (D : Ends), Inv X pins σ H s → t D σ H → wpAny (model X.prog X.w) X.A (exec st X.env) (SP X pins D) X.xe s
def PSs (X : Cx) (st : List Stmt) (t : TS) : Prop :=
  ∀ (pins : List (Addr × Obj)) (s : Shared) (σ : St) (H : Hp) (D : Ends), Inv X pins σ H s → t D σ H → wpAny (model X.prog X.w) X.A (execs st X.env) (SP X pins D) X.xe s
/-- weaken the end -/
theorem thn {α : Type} {t : Sem α} {Q Q' : α → Shared → Prop} {M : Model} {A : Around} {E : Value → Shared → Prop} {s : Shared} (h : wpAny M A t Q E s) (hQ : ∀ a s, Q a s → Q' a s) : wpAny M A t Q' E s := wpAny_mono h hQ fun _ _ x => x
end L2

namespace L2
open PySem PySem.Spec PyProof.Rows
section
variable {X : Cx}

/-- two expressions in a row -/
theorem bin {a b : Expr} {ta tb : TE} (ha : PE X a ta) (hb : PE X b tb) {pins : List (Addr × Obj)} {s : Shared} {σ : St} {H : Hp} {R : V → V → Hp → Prop} (I : Inv X pins σ H s) (h : ta σ H fun x H1 => tb σ H1 fun y H2 => R x y H2)
    {α : Type} {Q : α → Shared → Prop} {f : Value → Value → Sem α}
    (hf : ∀ v u s2 x y H2, Inv X pins σ H2 s2 → RelV x v → RelV y u → R x y H2 → wpAny (model X.prog X.w) X.A (f v u) Q X.xe s2) :
    wpAny (model X.prog X.w) X.A (eval a X.env) (fun v s₁ => wpAny (model X.prog X.w) X.A (eval b X.env) (fun u s₂ => wpAny (model X.prog X.w) X.A (f v u) Q X.xe s₂) X.xe s₁) X.xe s := by
  refine thn (ha pins s σ H _ I h) fun v s1 ⟨x, H1, I1, r1, q1⟩ => ?_
  refine thn (hb pins s1 σ H1 _ I1 q1) fun u s2 ⟨y, H2, I2, r2, q2⟩ => ?_
  exact hf v u s2 x y H2 I2 r1 r2 q2

/-! ### names and constants -/
def tVar (i : Nat) : TE := fun σ H Q => ∃ v, σ[i]? = some (some v) ∧ Q v H
def tC (v : V) : TE := fun _ H Q => Q v H
theorem pe_var {i : Nat} {x : Str} {pos : Pos} (hN : X.N[i]? = some x) (hv : Vis X.env.scope x) (hd : (x == ("__debug__" : Str)) = false := by decide) (hcd : (x == ("__classdict__" : Str)) = false := by decide) : PE X (.Name x pos) (tVar i) := by
  intro pins s σ H Q I h
  obtain ⟨v, e, h⟩ := h
  obtain ⟨m, hn, hl⟩ := I.loc
  obtain ⟨u, r, l⟩ := hl i x v hN e hv
  have fin : EP X pins σ Q u s := ⟨v, H, I, r, h⟩
  rcases l with ⟨hk, hm⟩ | ⟨hk, c, hc, hcell⟩
  · exact wpAny_Name (wpAny_loadName_local I.ok.kind hk hn hm fin) hd
  · rcases hk with hk | hk
    · exact wpAny_Name (wpAny_loadName_cell I.ok.kind hk hc hcell fin) hd
    · exact wpAny_Name (wpAny_loadName_free I.ok.kind hk hc hcell fin hcd) hd
theorem pe_int {i j pos} : PE X (.Constant (.int i) j pos) (tC (.int i)) := fun _ _ _ H _ I h => wpAny_Constant_int ⟨.int i, H, I.tok _, ⟨_, rfl⟩, h⟩
theorem pe_bl {b j pos} : PE X (.Constant (.bool b) j pos) (tC (.bl b)) := fun _ _ _ H _ I h => Constant_bool ⟨.bl b, H, I, rfl, h⟩
theorem pe_non {j pos} : PE X (.Constant .none j pos) (tC .non) := fun _ _ _ H _ I h => Constant_none ⟨.non, H, I, rfl, h⟩
theorem pe_str {x j pos} : PE X (.Constant (.str x) j pos) (tC (.str x)) := fun _ _ _ H _ I h => Calls.Constant_str ⟨.str x, H, I.tok _, ⟨_, rfl⟩, h⟩

/-- a global name of the def -/
def Gl (X : Cx) (x : Str) : Prop := X.env.kindOf x = some .globalImplicit
theorem ld_glob {E : Value → Shared → Prop} {pins : List (Addr × Obj)} {s : Shared} {σ : St} {H : Hp} {x : Str} {u : Value} {pos : Pos} {Q : Value → Shared → Prop} (I : Inv X pins σ H s) (hg : Gl X x) (hm : X.mg x = some u) (h : Q u s)
    (hd : (x == ("__debug__" : Str)) = false := by decide) : wpAny (model X.prog X.w) X.A (eval (.Name x pos) X.env) Q E s :=
  Calls.Name_function_global I.ok.kind hg (Calls.loadGlobal_global (by rw [I.ok.glob]; exact I.mod.glob.keeps I.bk) hm h) hd
theorem ld_blt {E : Value → Shared → Prop} {pins : List (Addr × Obj)} {s : Shared} {σ : St} {H : Hp} {x : Str} {u : Value} {pos : Pos} {Q : Value → Shared → Prop} (I : Inv X pins σ H s) (hg : Gl X x) (hm : X.mg x = none) (hv : bootBuiltins x = some u) (h : Q u s)
    (hn : x ≠ "__name__" := by decide) (hd : (x == ("__debug__" : Str)) = false := by decide) : wpAny (model X.prog X.w) X.A (eval (.Name x pos) X.env) Q E s := by
  obtain ⟨mb, h1, h2⟩ := I.mod.blt
  exact Calls.Name_function_global I.ok.kind hg (Calls.loadGlobal_builtin (by rw [I.ok.glob]; exact I.mod.glob.keeps I.bk) hm (by rw [I.ok.blt]; exact h1.keeps I.bk) ((h2 x hn).trans hv) h) hd
/-- a module's constant, a class, a function, as a value -/
theorem pe_glob {x : Str} {v : V} {u : Value} {pos : Pos} (hg : Gl X x) (hm : X.mg x = some u) (r : RelV v u) (hd : (x == ("__debug__" : Str)) = false := by decide) : PE X (.Name x pos) (tC v) :=
  fun _ _ _ H _ I h => ld_glob I hg hm ⟨v, H, I, r, h⟩ hd
theorem pe_bltn {x : Str} {v : V} {u : Value} {pos : Pos} (hg : Gl X x) (hm : X.mg x = none) (hv : bootBuiltins x = some u) (r : RelV v u) (hn : x ≠ "__name__" := by decide) (hd : (x == ("__debug__" : Str)) = false := by decide) : PE X (.Name x pos) (tC v) :=
  fun _ _ _ H _ I h => ld_blt I hg hm hv ⟨v, H, I, r, h⟩ hn hd

/-! ### arithmetic -/
variable {a b : Expr} {ta tb : TE} {pos : Pos}

/-! ### comparisons -/
def PC (X : Cx) (op : CmpOp) (a b : Expr) (t : TE) : Prop :=
  ∀ (pins : List (Addr × Obj)) (s : Shared) (σ : St) (H : Hp) (Q : VK), Inv X pins σ H s → t σ H Q →
    wpAny (model X.prog X.w) X.A (eval a X.env) (fun v s₁ => wpAny (model X.prog X.w) X.A (eval b X.env) (fun u s₂ => wpAny (model X.prog X.w) X.A (compareOp op v u) (EP X pins σ Q) X.xe s₂) X.xe s₁) X.xe s
theorem nobehind (b : Expr) {op : CmpOp} (h : op ≠ .In) (h2 : op ≠ .NotIn) : behindInMarks op b = false := by
  have e1 : (op == CmpOp.In) = false := by cases op <;> first | rfl | exact absurd rfl h
  have e2 : (op == CmpOp.NotIn) = false := by cases op <;> first | rfl | exact absurd rfl h2
  cases b <;> simp [behindInMarks, e1, e2]
/-- a comparison as a value, as a test -/
def tB (t : TE) : TT := fun σ H Q => t σ H fun x H1 => ∃ c, x = .bl c ∧ Q c H1
theorem pt_cmp {op : CmpOp} {t : TE} (h : PC X op a b t) (h1 : behindInMarks op b = false := by first | exact nobehind _ (by decide) (by decide) | rfl) : PT X (.Compare a [op] [b] pos) (tB t) := by
  intro pins s σ H Q I hw
  refine wpAny_isTrue_Compare1 (thn (h pins s σ H _ I hw) fun v s1 h1 => thn h1 fun u s2 h2 => thn h2 fun c s3 ⟨x, H1, I1, r1, q1⟩ => ?_) h1
  obtain ⟨d, rfl, q⟩ := q1
  cases r1
  exact wpAny_truthy_bool ⟨H1, I1, q⟩
/-- an expression whose value is a bool, as a test -/
theorem pt_val {e : Expr} {t : TE} (h : PE X e t) (he : ∀ whole, isTrue e X.env whole = (do let v ← whole; standAt e.pos; holding [v] (truthy v)) := by intro _; rfl) : PT X e (tB t) := by
  intro pins s σ H Q I hw
  refine isTrue_plain (thn (h pins s σ H _ I hw) fun v s1 ⟨x, H1, I1, r1, q1⟩ => ?_) (he _)
  obtain ⟨d, rfl, q⟩ := q1
  cases r1
  exact wpAny_truthy_bool ⟨H1, I1, q⟩

/-! ### and, or, not -/
variable {tA tB' : TT} {rest : List Expr}
def tAnd (t u : TT) : TT := fun σ H Q => t σ H fun c H1 => if c = true then u σ H1 Q else Q false H1
def tOr (t u : TT) : TT := fun σ H Q => t σ H fun c H1 => if c = true then Q true H1 else u σ H1 Q
def tNot (t : TT) : TT := fun σ H Q => t σ H fun c H1 => Q (!c) H1
theorem pw_and1 (ha : PT X a tA) : PW X (.BoolOp .And [a] pos) tA := by
  intro wh pins s σ H Q I h
  refine isTrue_and (thn (ha pins s σ H Q I h) fun c s1 e => ?_)
  cases c with
  | true => exact isTrue_and_nil e
  | false => exact e
theorem pw_or1 (ha : PT X a tA) : PW X (.BoolOp .Or [a] pos) tA := by
  intro wh pins s σ H Q I h
  refine isTrue_or (thn (ha pins s σ H Q I h) fun c s1 e => ?_)
  cases c with
  | false => exact isTrue_or_nil e
  | true => exact e
theorem pw_and (ha : PT X a tA) (hb : PW X (.BoolOp .And (b :: rest) pos) tB') : PW X (.BoolOp .And (a :: b :: rest) pos) (tAnd tA tB') := by
  intro wh pins s σ H Q I h
  refine isTrue_and (thn (ha pins s σ H _ I h) fun c s1 ⟨H1, I1, q1⟩ => ?_)
  cases c with
  | true => exact hb wh pins s1 σ H1 Q I1 q1
  | false => exact ⟨H1, I1, q1⟩
theorem pw_or (ha : PT X a tA) (hb : PW X (.BoolOp .Or (b :: rest) pos) tB') : PW X (.BoolOp .Or (a :: b :: rest) pos) (tOr tA tB') := by
  intro wh pins s σ H Q I h
  refine isTrue_or (thn (ha pins s σ H _ I h) fun c s1 ⟨H1, I1, q1⟩ => ?_)
  cases c with
  | true => exact ⟨H1, I1, q1⟩
  | false => exact hb wh pins s1 σ H1 Q I1 q1
theorem pt_not (ha : PT X a tA) : PT X (.UnaryOp .Not a pos) (tNot tA) := by
  intro pins s σ H Q I h
  exact isTrue_not (ha pins s σ H (fun c H1 => Q (!c) H1) I h)
/-- .. as values (bools) -/
def tAndV (ta tb : TE) : TE := fun σ H Q => ta σ H fun x H1 => ∃ c, x = .bl c ∧ if c = true then tb σ H1 Q else Q (.bl false) H1
def tOrV (ta tb : TE) : TE := fun σ H Q => ta σ H fun x H1 => ∃ c, x = .bl c ∧ if c = true then Q (.bl true) H1 else tb σ H1 Q
def tNotV (ta : TE) : TE := fun σ H Q => ta σ H fun x H1 => ∃ c, x = .bl c ∧ Q (.bl (!c)) H1
theorem pe_one {op} {t : TE} (h : PE X a t) : PE X (.BoolOp op [a] pos) t := fun pins s σ H Q I hw => BoolOp_one (h pins s σ H Q I hw)
theorem pe_and (ha : PE X a ta) (hb : PE X (.BoolOp .And (b :: rest) pos) tb) : PE X (.BoolOp .And (a :: b :: rest) pos) (tAndV ta tb) := by
  intro pins s σ H Q I h
  refine BoolOp_and (thn (ha pins s σ H _ I h) fun v s1 ⟨x, H1, I1, r1, q1⟩ => ?_)
  obtain ⟨c, rfl, q1⟩ := q1
  cases r1
  refine wpAny_truthy_bool ?_
  cases c with
  | true => exact hb pins s1 σ H1 Q I1 q1
  | false => exact ⟨.bl false, H1, I1, rfl, q1⟩
theorem pe_or (ha : PE X a ta) (hb : PE X (.BoolOp .Or (b :: rest) pos) tb) : PE X (.BoolOp .Or (a :: b :: rest) pos) (tOrV ta tb) := by
  intro pins s σ H Q I h
  refine BoolOp_or (thn (ha pins s σ H _ I h) fun v s1 ⟨x, H1, I1, r1, q1⟩ => ?_)
  obtain ⟨c, rfl, q1⟩ := q1
  cases r1
  refine wpAny_truthy_bool ?_
  cases c with
  | false => exact hb pins s1 σ H1 Q I1 q1
  | true => exact ⟨.bl true, H1, I1, rfl, q1⟩
theorem pe_not (ha : PE X a ta) : PE X (.UnaryOp .Not a pos) (tNotV ta) := by
  intro pins s σ H Q I h
  refine UnaryOp_ (thn (ha pins s σ H _ I h) fun v s1 ⟨x, H1, I1, r1, q1⟩ => ?_)
  obtain ⟨c, rfl, q1⟩ := q1
  cases r1
  exact not_of (wpAny_truthy_bool ⟨.bl (!c), H1, I1, rfl, q1⟩)
/-- a if t else b -/
def tIf (t : TT) (ta tb : TE) : TE := fun σ H Q => t σ H fun c H1 => if c = true then ta σ H1 Q else tb σ H1 Q
theorem pe_ifExp {c : Expr} (hc : PT X c tA) (ha : PE X a ta) (hb : PE X b tb) : PE X (.IfExp c a b pos) (tIf tA ta tb) := by
  intro pins s σ H Q I h
  refine wpAny_IfExp (thn (hc pins s σ H _ I h) fun d s1 ⟨H1, I1, q1⟩ => ?_)
  cases d with
  | true => exact ha pins s1 σ H1 Q I1 q1
  | false => exact hb pins s1 σ H1 Q I1 q1
end
end L2

namespace L2
open PySem PySem.Spec PyProof.Rows

/-! ### a list, a tuple that is read: tracked, frozen, or an object of the module -/
def SqL (K : PySem.W.Frag) (H : Hp) (a : Addr) (xs : List V) : Prop :=
  Rd H a (.lst xs) ∨
    ∃ (o : Obj) (its : Array Value) (n : Nat), K.lookup a = some o ∧ o.cls = .type "list" ∧ o.dict = none ∧ o.data = .seq its n ∧ its.size ≤ sizeLine ∧ Vals xs its.toList
def SqT (K : PySem.W.Frag) (H : Hp) (a : Addr) (xs : List V) : Prop :=
  Rd H a (.tup xs) ∨
    ∃ (o : Obj) (its : Array Value) (n : Nat), K.lookup a = some o ∧ o.cls = .type "tuple" ∧ o.data = .seq its n ∧ its.size ≤ sizeLine ∧ Vals xs its.toList
def absV : Value → Option V
  | .none => some .non
  | .bool b => some (.bl b)
  | .int i _ => some (.int i)
  | .str x _ => some (.str x)
  | .bytes b _ => some (.byt b)
  | .float b _ => some (.flt b)
  | .ref a => some (.ref a)
  | .type n => some (.ty n)
  | _ => none
theorem RelV.abs {x : V} {u : Value} (r : RelV x u) : absV u = some x := by
  cases x with
  | non => cases r; rfl
  | bl _ => cases r; rfl
  | int _ => obtain ⟨t, rfl⟩ := r; rfl
  | str _ => obtain ⟨t, rfl⟩ := r; rfl
  | byt _ => obtain ⟨t, rfl⟩ := r; rfl
  | flt _ => obtain ⟨t, rfl⟩ := r; rfl
  | ref _ => cases r; rfl
  | ty _ => cases r; rfl
theorem RelV.inj {x y : V} {u : Value} (r : RelV x u) (q : RelV y u) : x = y := Option.some.inj (r.abs.symm.trans q.abs)
theorem Vals.inj : ∀ {xs ys : List V} {us : List Value}, Vals xs us → Vals ys us → xs = ys
  | _, _, _, .nil, .nil => rfl
  | _, _, _, .cons r t, .cons r' t' => by rw [r.inj r', Vals.inj t t']
section
variable {X : Cx} {pins : List (Addr × Obj)} {σ : St} {H : Hp} {s : Shared} {a : Addr} {xs ys : List V}
theorem SqL.of {K : PySem.W.Frag} (h : H a = some (.lst xs)) : SqL K H a xs := .inl (.inl h)
theorem SqT.of {K : PySem.W.Frag} (h : H a = some (.tup xs)) : SqT K H a xs := .inl (.inl h)
theorem Inv.list (I : Inv X pins σ H s) (h : SqL X.K H a xs) : ∃ its : List Value, Vals xs its ∧ PlainL s.heap a its.toArray ∧ xs.length ≤ sizeLine := by
  rcases h with h | ⟨o, its, n, hk, hc, hd, hs, hz, r⟩
  · obtain ⟨z, its, n, r, e⟩ := h.ok I.hok
    exact ⟨its, r, ⟨_, n, e, rfl, rfl, rfl⟩, z⟩
  · refine ⟨its.toList, r, ⟨o, n, I.kIn a o hk, hc, hd, by simpa using hs⟩, ?_⟩
    have e := r.length
    simp only [Array.length_toList] at e
    omega
theorem Inv.tuple (I : Inv X pins σ H s) (h : SqT X.K H a xs) : ∃ its : List Value, Vals xs its ∧ IsTup s.heap a its.toArray ∧ xs.length ≤ sizeLine := by
  rcases h with h | ⟨o, its, n, hk, hc, hs, hz, r⟩
  · obtain ⟨z, its, r, p⟩ := h.ok I.hok
    exact ⟨its, r, p, z⟩
  · refine ⟨its.toList, r, ⟨o, I.kIn a o hk, hc, n, by simpa using hs⟩, ?_⟩
    have e := r.length
    simp only [Array.length_toList] at e
    omega
theorem Inv.list_inj (I : Inv X pins σ H s) (h : SqL X.K H a xs) (h' : SqL X.K H a ys) : xs = ys := by
  obtain ⟨its, r, ⟨o, n, e, _, _, d⟩, _⟩ := I.list h
  obtain ⟨its', r', ⟨o', n', e', _, _, d'⟩, _⟩ := I.list h'
  rw [e] at e'; cases e'
  rw [d] at d'
  injection d' with d1 _
  have : its = its' := by simpa using congrArg Array.toList d1
  subst this
  exact r.inj r'
theorem Inv.tuple_inj (I : Inv X pins σ H s) (h : SqT X.K H a xs) (h' : SqT X.K H a ys) : xs = ys := by
  obtain ⟨its, r, ⟨o, e, _, n, d⟩, _⟩ := I.tuple h
  obtain ⟨its', r', ⟨o', e', _, n', d'⟩, _⟩ := I.tuple h'
  rw [e] at e'; cases e'
  rw [d] at d'
  injection d' with d1 _
  have : its = its' := by simpa using congrArg Array.toList d1
  subst this
  exact r.inj r'
end

/-! ### another wish about exceptions -/
abbrev Cx.wish (X : Cx) (E : Value → Shared → Prop) : Cx := { X with xe := E }
/-- no exception leaves -/
abbrev Cx.nox (X : Cx) : Cx := X.wish fun _ _ => False
theorem Cx.Ok.wish {X : Cx} (ok : X.Ok) (E : Value → Shared → Prop) : (X.wish E).Ok :=
  ⟨ok.mod, ok.kind, ok.glob, ok.blt, ok.above, ok.inj, ok.has, ok.cab, ok.hd, ok.frames, ok.stk, ok.exf, ok.bs, ok.bsz, ok.noex, ok.exfs, ok.funs, ok.frf⟩
theorem Cx.Ok.unwish {X : Cx} {E : Value → Shared → Prop} (ok : (X.wish E).Ok) : X.Ok :=
  ⟨ok.mod, ok.kind, ok.glob, ok.blt, ok.above, ok.inj, ok.has, ok.cab, ok.hd, ok.frames, ok.stk, ok.exf, ok.bs, ok.bsz, ok.noex, ok.exfs, ok.funs, ok.frf⟩
section
variable {X : Cx} {pins : List (Addr × Obj)} {σ : St} {H : Hp} {s : Shared} {E : Value → Shared → Prop}
theorem Inv.wish (I : Inv X pins σ H s) (E : Value → Shared → Prop) : Inv (X.wish E) pins σ H s := ⟨I.ok.wish E, I.os, I.bare, I.base, I.loc, I.cell, I.free, I.freeC, I.pin, I.hok, I.len⟩
theorem Inv.unwish (I : Inv (X.wish E) pins σ H s) : Inv X pins σ H s := ⟨I.ok.unwish, I.os, I.bare, I.base, I.loc, I.cell, I.free, I.freeC, I.pin, I.hok, I.len⟩
theorem SP.unwish {D : Ends} {f : Flow} {s' : Shared} (h : SP (X.wish E) pins D f s') : SP X pins D f s' := by
  cases f with
  | next => obtain ⟨σ', H', I, q⟩ := h; exact ⟨σ', H', I.unwish, q⟩
  | brk => obtain ⟨σ', H', I, q⟩ := h; exact ⟨σ', H', I.unwish, q⟩
  | cont => obtain ⟨σ', H', I, q⟩ := h; exact ⟨σ', H', I.unwish, q⟩
  | ret u => obtain ⟨v, σ', H', I, r, q⟩ := h; exact ⟨v, σ', H', I.unwish, r, q⟩
theorem PE.nox {e : Expr} {t : TE} (h : PE X.nox e t) : PE X e t := fun pins s σ H Q I hw =>
  wpAny_mono (h pins s σ H Q (I.wish _) hw) (fun _ _ ⟨v, H', I', r, q⟩ => ⟨v, H', I'.unwish, r, q⟩) fun _ _ z => False.elim z
theorem PT.nox {e : Expr} {t : TT} (h : PT X.nox e t) : PT X e t := fun pins s σ H Q I hw =>
  wpAny_mono (h pins s σ H Q (I.wish _) hw) (fun _ _ ⟨H', I', q⟩ => ⟨H', I'.unwish, q⟩) fun _ _ z => False.elim z
theorem PSs.nox {st : List Stmt} {t : TS} (h : PSs X.nox st t) : PSs X st t := fun pins s σ H D I hw =>
  wpAny_mono (h pins s σ H D (I.wish _) hw) (fun _ _ q => q.unwish) fun _ _ z => False.elim z
end

/-! ### blocks and small statements -/
section
variable {X : Cx} {st : Stmt} {rest : List Stmt} {t u : TS} {e : Expr} {te : TE} {pos : Pos}
def tNext : TS := fun D σ H => D.nx σ H
def tSeq (t u : TS) : TS := fun D σ H => t { D with nx := u D } σ H
theorem pss_nil : PSs X [] tNext := fun _ _ σ H _ I h => wpAny_execs_nil ⟨σ, H, I, h⟩
theorem pss_cons (h1 : PS X st t) (h2 : PSs X rest u) : PSs X (st :: rest) (tSeq t u) := by
  intro pins s σ H D I h
  refine wpAny_execs_cons (thn (h1 pins s σ H { D with nx := u D } I h) fun f s1 q => ?_)
  cases f with
  | next =>
    obtain ⟨σ', H', I', q⟩ := q
    exact h2 pins s1 σ' H' D I' q
  | ret v => exact q
  | brk => exact q
  | cont => exact q
theorem pss_one (h1 : PS X st t) : PSs X [st] t := by
  intro pins s σ H D I h
  refine wpAny_execs_cons (thn (h1 pins s σ H D I h) fun f s1 q => ?_)
  cases f with
  | next => exact wpAny_execs_nil q
  | ret v => exact q
  | brk => exact q
  | cont => exact q
/-- in a def's body nothing is shown -/
theorem Inv.quiet {pins : List (Addr × Obj)} {σ : St} {H : Hp} {s : Shared} (I : Inv X pins σ H s) : interactive X.env = false := by simp [interactive, I.ok.kind]
/-- an expression whose value is dropped -/
def tDrop (te : TE) : TS := fun D σ H => te σ H fun _ H1 => D.nx σ H1
theorem ps_expr (he : PE X e te) (hs : swapsWith e none pos.line X.env = pure false := by rfl) : PS X (.Expr e pos) (tDrop te) := by
  intro pins s σ H D I h
  exact wpAny_Expr_any (thn (he pins s σ H _ I h) fun v s1 ⟨x, H1, I1, r1, q1⟩ => ⟨σ, H1, I1, q1⟩) I.quiet hs
def tRet (te : TE) : TS := fun D σ H => te σ H D.rt
theorem ps_ret (he : PE X e te) : PS X (.Return (some e) pos) (tRet te) := by
  intro pins s σ H D I h
  exact wpAny_Return_some (thn (he pins s σ H _ I h) fun v s1 ⟨x, H1, I1, r1, q1⟩ => ⟨x, σ, H1, I1, r1, q1⟩)
def tIfS (c : TT) (t u : TS) : TS := fun D σ H => c σ H fun b H1 => if b = true then t D σ H1 else u D σ H1
theorem ps_if {c : Expr} {a b : List Stmt} {tc : TT} (hc : PT X c tc) (ha : PSs X a t) (hb : PSs X b u) : PS X (.If c a b pos) (tIfS tc t u) := by
  intro pins s σ H D I h
  refine wpAny_If (thn (hc pins s σ H _ I h) fun d s1 ⟨H1, I1, q1⟩ => ?_)
  cases d with
  | true => exact ha pins s1 σ H1 D I1 q1
  | false => exact hb pins s1 σ H1 D I1 q1
end

/-! ### targets -/
abbrev TG := V → St → Hp → (St → Hp → Prop) → Prop
abbrev TGs := List V → St → Hp → (St → Hp → Prop) → Prop
def PG (X : Cx) (target : Expr) (t : TG) : Prop :=
  ∀ (pins : List (Addr × Obj)) (s : Shared) (σ : St) (H : Hp) (v : V) (u : Value) (Q : St → Hp → Prop), Inv X pins σ H s → RelV v u → t v σ H Q →
    wpAny (model X.prog X.w) X.A (assign target X.env u) (fun _ s' => ∃ σ' H', Inv X pins σ' H' s' ∧ Q σ' H') X.xe s
/-- several targets, one after another -/
def PGs (X : Cx) (ts : List Expr) (t : TGs) : Prop :=
  ∀ (pins : List (Addr × Obj)) (s : Shared) (σ : St) (H : Hp) (vs : List V) (us : List Value) (Q : St → Hp → Prop), Inv X pins σ H s → Vals vs us → t vs σ H Q →
    wpAny (model X.prog X.w) X.A (assignInOrder ((assignEach ts X.env).map (·.2)) us) (fun _ s' => ∃ σ' H', Inv X pins σ' H' s' ∧ Q σ' H') X.xe s
section
variable {X : Cx} {pos : Pos}
def gName (i : Nat) : TG := fun v σ H Q => Q (σ.set i (some v)) H
theorem pg_name {i : Nat} {x : Str} (hN : X.N.Nodup) (hi : X.N[i]? = some x) (hx : Loc X.env.scope x) (hf : X.fn x = true ∨ X.env.scope.names.lookup x = some .local := by first | exact .inl rfl | exact .inr rfl | assumption) : PG X (.Name x pos) (gName i) := by
  intro pins s σ H v u Q I r h
  exact wpAny_assign_Name (store_ok I hN hi hx r (fun s' I' => ⟨_, H, I', h⟩) hf)
def gNil : TGs := fun vs σ H Q => vs = [] ∧ Q σ H
def gCons (t : TG) (u : TGs) : TGs := fun vs σ H Q => ∃ v r, vs = v :: r ∧ t v σ H fun σ' H' => u r σ' H' Q
theorem pgs_nil : PGs X [] gNil := by
  intro pins s σ H vs us Q I r h
  obtain ⟨e, h⟩ := h
  subst e
  cases r
  exact assignInOrder_nil ⟨σ, H, I, h⟩
theorem pgs_cons {e : Expr} {es : List Expr} {t : TG} {u : TGs} (h1 : PG X e t) (h2 : PGs X es u)
    (hs : (assignEach (e :: es) X.env).map (·.2) = assign e X.env :: (assignEach es X.env).map (·.2) := by rfl) : PGs X (e :: es) (gCons t u) := by
  intro pins s σ H vs us Q I r h
  obtain ⟨v, vr, e1, h⟩ := h
  subst e1
  cases r with
  | cons r rr =>
    rw [hs]
    refine assignInOrder_cons (thn (h1 pins s σ H _ _ _ I r h) fun _ s1 ⟨σ1, H1, I1, q1⟩ => ?_)
    exact h2 pins s1 σ1 H1 _ _ Q I1 rr q1
/-- (a, b, ..) = a tuple of that length -/
def gTup (K : PySem.W.Frag) (n : Nat) (t : TGs) : TG := fun v σ H Q => ∃ a xs, v = .ref a ∧ SqT K H a xs ∧ xs.length = n ∧ t xs σ H Q
theorem pg_tup {es : List Expr} {k : Nat} {t : TGs} {n : Nat} (hc : X.calm = true) (h : PGs X es t)
    (hn : (assignEach es X.env).length = n := by rfl) (hst : (assignEach es X.env).findIdx? (·.1) = none := by rfl) : PG X (.Tuple es k pos) (gTup X.K n t) := by
  intro pins s σ H v u Q I r hw
  obtain ⟨a, xs, e1, hq, hl, hw⟩ := hw
  subst e1
  cases r
  obtain ⟨its, rv, ht, hz⟩ := I.tuple hq
  refine assign_Tuple_tuple (I.ok.hd hc) ht (by simp [hn, ← hl, rv.length]) hst fun h' hx => ?_
  have I1 : Inv X pins σ H { s with heap := h' } := I.kept (t' := s.toks) fun b o e => hx b o (Nat.ne_of_lt (Heap.lt_size e)) e
  exact h pins _ σ H xs _ Q I1 (by simpa using rv) hw
/-- target = value -/
def tAsg (te : TE) (g : TG) : TS := fun D σ H => te σ H fun x H1 => g x σ H1 D.nx
/-- name = value -/
theorem ps_set {i : Nat} {x : Str} {e : Expr} {te : TE} {pos' : Pos} (hN : X.N.Nodup) (hi : X.N[i]? = some x) (hx : Loc X.env.scope x) (he : PE X e te) (hs : swapsWith e (some (.Name x pos')) pos.line X.env = pure false := by rfl) (hf : X.fn x = true ∨ X.env.scope.names.lookup x = some .local := by first | exact .inl rfl | exact .inr rfl | assumption) :
    PS X (.Assign [.Name x pos'] e pos) (tAsg te (gName i)) := by
  intro pins s σ H D I h
  refine wpAny_Assign_Name (thn (he pins s σ H _ I h) fun v s1 ⟨y, H1, I1, r1, q1⟩ => ?_) hs
  exact store_ok I1 hN hi hx r1 (fun s2 I2 => ⟨_, H1, I2, q1⟩) hf
end

/-! ### while -/
section
variable {X : Cx} {pos : Pos}
end

/-! ### what a loop or a comprehension walks -/
/-- at turn i: it yields x (the heap may grow), or it stops -/
structure It where
  go : Nat → Hp → Prop
  yld : Nat → Hp → V → Hp → Prop
  stop : Nat → Hp → Prop
/-- the iterator's own objects may turn: they are not the frame's, not pinned, younger than the entry (or a comprehension's own) -/
def FpOk (X : Cx) (pins : List (Addr × Obj)) (H : Hp) (b : Addr) : Prop :=
  H b = none ∧ b ≠ X.env.locals ∧ b ∉ X.fs ∧ (b ∈ X.ex ∨ X.s₀.heap.objs.size ≤ b) ∧ (∀ x c, X.env.cells.lookup x = some c → c ≠ b) ∧ ∀ p ∈ X.pn ++ pins, p.1 ≠ b
theorem Inv.fpOk {X : Cx} {pins : List (Addr × Obj)} {σ : St} {H H' : Hp} {s : Shared} {b : Addr} (I : Inv X pins σ H s) (hb : s.heap.objs.size ≤ b) (hn : H' b = none) : FpOk X pins H' b := by
  refine ⟨hn, Nat.ne_of_gt (Nat.lt_of_lt_of_le I.lt hb), I.nofs hb, .inr (Nat.le_trans I.sz hb), fun x c e z => ?_, fun p hp z => ?_⟩
  · obtain ⟨v, q⟩ := I.cell x c e
    exact absurd (Nat.lt_of_lt_of_le q.lt (by rw [z]; exact hb)) (Nat.lt_irrefl _)
  · exact absurd (Nat.lt_of_lt_of_le (Heap.lt_size (I.pin p hp).1) (by rw [z]; exact hb)) (Nat.lt_irrefl _)
structure Turn (P : Program) (w : World) (K : PySem.W.Frag) (tg : Expr) (J : It) (fp : List Addr) (it : Addr) (tn : Nat → Heap → Prop) : Prop where
  mem : it ∈ fp
  obj : ∀ i h, tn i h → ∀ b ∈ fp, ∃ o, h.get? b = some o ∧ ∀ v, o.data ≠ .cell v
  keep : ∀ i h h', tn i h → (∀ b ∈ fp, ∀ o, h.get? b = some o → h'.get? b = some o) → tn i h'
  item : ∀ (X : Cx), X.prog = P → X.w = w → X.K = K → X.calm = true → ∀ (i : Nat) (pins : List (Addr × Obj)) (s : Shared) (σ : St) (H : Hp) (E : Value → Shared → Prop), Inv X pins σ H s → (∀ b ∈ fp, FpOk X pins H b) → tn i s.heap → J.go i H →
    wpAny (model P w) X.A (pyNext (.ref it)) (fun r s1 => ∃ u, r = some u ∧
      wpAny (model P w) X.A (letOwnedTupleGo tg (.ref it) u) (fun _ s2 => ∃ x H', Inv X pins σ H' s2 ∧ RelV x u ∧ J.yld i H x H' ∧ tn (i + 1) s2.heap ∧ ∀ b ∈ fp, H' b = none) E s1) E s
  done : ∀ (X : Cx), X.prog = P → X.w = w → X.K = K → X.calm = true → ∀ (i : Nat) (pins : List (Addr × Obj)) (s : Shared) (σ : St) (H : Hp) (E : Value → Shared → Prop), Inv X pins σ H s → (∀ b ∈ fp, FpOk X pins H b) → tn i s.heap → J.stop i H →
    wpAny (model P w) X.A (pyNext (.ref it)) (fun r s1 => r = none ∧ Inv X pins σ H s1) E s
  self : ∀ (A : Around) (i : Nat) (s : Shared) (Q : Value → Shared → Prop) (E : Value → Shared → Prop), tn i s.heap → Q (.ref it) s → wpAny (model P w) A (pyIter (.ref it)) Q E s
abbrev TI := St → Hp → (It → Hp → Prop) → Prop
/-- an iterator has come -/
def PIE (X : Cx) (pins : List (Addr × Obj)) (σ : St) (tg : Expr) (R : It → Hp → Prop) (itv : Value) (s2 : Shared) : Prop :=
  ∃ (it : Addr) (fp : List Addr) (tn : Nat → Heap → Prop) (J : It) (H' : Hp), itv = .ref it ∧ Inv X pins σ H' s2 ∧ Turn X.prog X.w X.K tg J fp it tn ∧ tn 0 s2.heap ∧ (∀ b ∈ fp, FpOk X pins H' b) ∧ R J H'
def PI (X : Cx) (tg iter : Expr) (wi : TI) : Prop :=
  ∀ (pins : List (Addr × Obj)) (s : Shared) (σ : St) (H : Hp) (R : It → Hp → Prop), Inv X pins σ H s → wi σ H R →
    wpAny (model X.prog X.w) X.A (eval iter X.env) (fun v s1 => wpAny (model X.prog X.w) X.A (pyIter v) (PIE X pins σ tg R) X.xe s1) X.xe s

/-- the step ahead of the store is nothing for an iterator that keeps no tuple -/
theorem go_of {M : Model} {A : Around} {E : Value → Shared → Prop} {s : Shared} {tg : Expr} {it : Addr} {u : Value} {o : Obj} {n : String} {vs : Array Value} {Q : Unit → Shared → Prop} (ho : s.heap.get? it = some o) (hc : o.cls = .type n) (hd : o.data = .fields vs)
    (hn : ["enumerate", "zip", "dict_itemiterator", "dict_reverseitemiterator", "odict_iterator", "itertools.zip_longest", "itertools.pairwise"].contains n = false) (hQ : Q () s) : wpAny M A (letOwnedTupleGo tg (.ref it) u) Q E s := by
  unfold letOwnedTupleGo
  cases tg <;> first
    | exact wpAny_pure hQ
    | (cases u <;> first
        | exact wpAny_pure hQ
        | (refine wpAny_bind (wpAny_load ho ?_)
           rw [hc, hd]
           show wpAny M A (if (["enumerate", "zip", "dict_itemiterator", "dict_reverseitemiterator", "odict_iterator", "itertools.zip_longest", "itertools.pairwise"].contains n && vs[0]? == some (rawInt _)) = true then _ else _) Q E s
           rw [if_neg (by intro h; rw [hn, Bool.false_and] at h; cases h)]
           exact wpAny_pure hQ))

/-- the list at a, as it stands at each turn (a loop may append to it) -/
def Itl (K : PySem.W.Frag) (a : Addr) : It :=
  ⟨fun i H => ∃ xs x, SqL K H a xs ∧ xs[i]? = some x, fun i H x H' => H' = H ∧ ∀ xs, SqL K H a xs → xs[i]? = some x, fun i H => ∃ xs, SqL K H a xs ∧ xs.length ≤ i⟩
def Itt (K : PySem.W.Frag) (a : Addr) : It :=
  ⟨fun i H => ∃ xs x, SqT K H a xs ∧ xs[i]? = some x, fun i H x H' => H' = H ∧ ∀ xs, SqT K H a xs → xs[i]? = some x, fun i H => ∃ xs, SqT K H a xs ∧ xs.length ≤ i⟩
/-- lo, lo + 1, .. (n of them) -/
def Itr (lo : Int) (n : Nat) : It := ⟨fun i _ => i < n, fun i H x H' => H' = H ∧ x = .int (lo + i), fun i _ => n ≤ i⟩
theorem turn_list {P : Program} {w : World} {K : PySem.W.Frag} {tg : Expr} (a it : Addr) : Turn P w K tg (Itl K a) [it] it (fun i h => h.IsListIter it a i) where
  mem := by simp
  obj := fun i h st b hb => by
    have e : b = it := by simpa using hb
    subst e
    obtain ⟨o, e, c, d⟩ := st
    exact ⟨o, e, fun v z => by rw [d] at z; cases z⟩
  keep := fun i h h' st k => st.at fun o e => k it (by simp) o e
  item := by
    intro X hP hw hK hc i pins s σ H E I hf st hg
    subst hP hw hK
    obtain ⟨xs, x, hq, hx⟩ := hg
    obtain ⟨its, rv, p, hz⟩ := I.list hq
    obtain ⟨u, hu, ru⟩ := rv.get hx
    obtain ⟨f0, f1, f2, f3, f4, f5⟩ := hf it (by simp)
    refine wpAny_pyNext_list_item st p.isList (x := u) (by simpa using hu) fun h' st' sb => ?_
    have I1 : Inv X pins σ H { s with heap := h' } := I.turned (t' := s.toks) (fun b o hb e => (sb.2 b hb).trans e) f0 f1 f3 f4 f5
    obtain ⟨o, e, c, d⟩ := id st'
    exact ⟨u, rfl, go_of (s := { s with heap := h' }) e c d (by decide) ⟨x, H, I1, ru, ⟨rfl, fun ys hy => by rw [I.list_inj hy hq]; exact hx⟩, st', fun b hb => (hf b hb).1⟩⟩
  done := by
    intro X hP hw hK hc i pins s σ H E I hf st hg
    subst hP hw hK
    obtain ⟨xs, hq, hx⟩ := hg
    obtain ⟨its, rv, p, hz⟩ := I.list hq
    obtain ⟨f0, f1, f2, f3, f4, f5⟩ := hf it (by simp)
    have hl := rv.length
    exact wpAny_pyNext_list_end (I.ok.hd hc) st p.isList (by simp; omega) fun h' eb => ⟨rfl, I.turned (t' := s.toks) (fun b o hb e => eb b o hb e) f0 f1 f3 f4 f5⟩
  self := fun _ _ _ _ _ st h => wpAny_pyIter_listiter st h
theorem turn_tuple {P : Program} {w : World} {K : PySem.W.Frag} {tg : Expr} (a it : Addr) : Turn P w K tg (Itt K a) [it] it (fun i h => h.IsTupleIter it a i) where
  mem := by simp
  obj := fun i h st b hb => by
    have e : b = it := by simpa using hb
    subst e
    obtain ⟨o, e, c, d⟩ := st
    exact ⟨o, e, fun v z => by rw [d] at z; cases z⟩
  keep := fun i h h' st k => st.at fun o e => k it (by simp) o e
  item := by
    intro X hP hw hK hc i pins s σ H E I hf st hg
    subst hP hw hK
    obtain ⟨xs, x, hq, hx⟩ := hg
    obtain ⟨its, rv, p, hz⟩ := I.tuple hq
    obtain ⟨u, hu, ru⟩ := rv.get hx
    obtain ⟨f0, f1, f2, f3, f4, f5⟩ := hf it (by simp)
    refine wpAny_pyNext_tuple_item st (show s.heap.IsTuple a its.toArray from p) (x := u) (by simpa using hu) fun h' st' sb => ?_
    have I1 : Inv X pins σ H { s with heap := h' } := I.turned (t' := s.toks) (fun b o hb e => (sb.2 b hb).trans e) f0 f1 f3 f4 f5
    obtain ⟨o, e, c, d⟩ := id st'
    exact ⟨u, rfl, go_of (s := { s with heap := h' }) e c d (by decide) ⟨x, H, I1, ru, ⟨rfl, fun ys hy => by rw [I.tuple_inj hy hq]; exact hx⟩, st', fun b hb => (hf b hb).1⟩⟩
  done := by
    intro X hP hw hK hc i pins s σ H E I hf st hg
    subst hP hw hK
    obtain ⟨xs, hq, hx⟩ := hg
    obtain ⟨its, rv, p, hz⟩ := I.tuple hq
    obtain ⟨f0, f1, f2, f3, f4, f5⟩ := hf it (by simp)
    have hl := rv.length
    exact wpAny_pyNext_tuple_end (I.ok.hd hc) st (show s.heap.IsTuple a its.toArray from p) (by simp; omega) fun h' eb => ⟨rfl, I.turned (t' := s.toks) (fun b o hb e => eb b o hb e) f0 f1 f3 f4 f5⟩
  self := fun _ _ _ _ _ st h => wpAny_pyIter_tupleiter st h
theorem turn_range {P : Program} {w : World} {K : PySem.W.Frag} {tg : Expr} (it : Addr) (lo : Int) (n : Nat) : Turn P w K tg (Itr lo n) [it] it (fun i h => IsRangeIter h it (lo + (i : Nat) * 1) ((n : Int) - (i : Nat)) 1) where
  mem := by simp
  obj := fun i h st b hb => by
    have e : b = it := by simpa using hb
    subst e
    exact ⟨_, st, fun v z => by
      have z' : Data.fields _ = Data.cell v := z
      cases z'⟩
  keep := fun i h h' st k => k it (by simp) _ st
  item := by
    intro X hP hw hK hc i pins s σ H E I hf st hg
    subst hP hw hK
    obtain ⟨f0, f1, f2, f3, f4, f5⟩ := hf it (by simp)
    have W := Walks.range (prog := X.prog) (w := X.w) (I.ok.hd hc) it lo 1 n
    refine W.item i s _ _ hg st fun v h' tk hv st' kk => ?_
    obtain ⟨t, rfl⟩ := hv
    have I1 : Inv X pins σ H { s with heap := h', toks := tk } := I.turned (fun b o hb e => kk b o (by simpa using hb) e) f0 f1 f3 f4 f5
    refine ⟨_, rfl, go_of (s := { s with heap := h', toks := tk }) (n := "range_iterator") st' rfl rfl (by decide) ⟨.int (lo + i), H, I1, ⟨t, ?_⟩, ⟨rfl, rfl⟩, st', fun b hb => (hf b hb).1⟩⟩
    rw [Int.mul_one]
  done := by
    intro X hP hw hK hc i pins s σ H E I hf st hg
    subst hP hw hK
    obtain ⟨f0, f1, f2, f3, f4, f5⟩ := hf it (by simp)
    exact wpAny_pyNext_range_end (I.ok.hd hc) st (by have : n ≤ i := hg; omega) fun h' eb => ⟨rfl, I.turned (t' := s.toks) (fun b o hb e => eb b o hb e) f0 f1 f3 f4 f5⟩
  self := fun _ _ _ _ _ st h => wpAny_pyIter_rangeiter st h
end L2

namespace L2
open PySem PySem.Spec PyProof.Rows
section
variable {X : Cx} {tg : Expr}
/-- a range object just made, walked -/
theorem range_it {pins : List (Addr × Obj)} {σ : St} {H : Hp} {s : Shared} {R : It → Hp → Prop} {E : Value → Shared → Prop} {lo hi : Int} {t u v : Tok} {tk : Nat} (I : Inv X pins σ H s) (h1 : -(2 ^ 62) ≤ lo) (h2 : lo < 2 ^ 62) (h3 : -(2 ^ 62) ≤ hi) (h4 : hi < 2 ^ 62)
    (q : R (Itr lo (hi - lo).toNat) H) : wpAny (model X.prog X.w) X.A (pyIter (.ref s.heap.objs.size)) (PIE X pins σ tg R) E { s with heap := s.heap.push { cls := .type "range", data := .fields #[.int lo t, .int hi u, .int 1 v] }, toks := tk } := by
  refine wpAny_pyIter_range (IsRange.new ..) (small_one h1 h2 h3 h4) ?_
  have I1 : Inv X pins σ H { s with heap := s.heap.push { cls := .type "range", data := .fields #[.int lo t, .int hi u, .int 1 v] }, toks := tk } := I.kept fun b o e => Heap.get?_push_of_some _ e
  refine ⟨(s.heap.push { cls := .type "range", data := .fields #[.int lo t, .int hi u, .int 1 v] }).objs.size, [(s.heap.push { cls := .type "range", data := .fields #[.int lo t, .int hi u, .int 1 v] }).objs.size], _, _, H, rfl,
    I1.kept (t' := tk) fun b o e => Heap.get?_push_of_some _ e, turn_range _ lo (hi - lo).toNat, ?_, fun b hb => ?_, q⟩
  · have e1 : lo + ((0 : Nat) : Int) * 1 = lo := by simp
    have e2 : (((hi - lo).toNat : Nat) : Int) - ((0 : Nat) : Int) = Builtin.Range.rangeSize lo hi 1 := by rw [rangeSize_one]; split <;> omega
    show IsRangeIter _ _ (lo + ((0 : Nat) : Int) * 1) ((((hi - lo).toNat : Nat) : Int) - ((0 : Nat) : Int)) 1
    rw [e1, e2]
    exact Heap.get?_push_size _ rfl
  · have e : b = (s.heap.push { cls := .type "range", data := .fields #[.int lo t, .int hi u, .int 1 v] }).objs.size := by simpa using hb
    subst e
    exact I1.fpOk (Nat.le_refl _) (I1.hok.fresh (Nat.le_refl _))
def iRng1 (ta : TA) : TI := fun σ H R => ta σ H fun vs H1 => ∃ j : Int, vs = [.int j] ∧ -(2 ^ 62) ≤ j ∧ j < 2 ^ 62 ∧ R (Itr 0 j.toNat) H1
theorem pi_range1 {a : Expr} {ta : TA} {p pos : Pos} (hg : Gl X "range") (hm : X.mg "range" = none) (ha : PA X [a] ta) (hs : starEach [a] X.env = [(false, eval a X.env)] := by rfl) : PI X tg (.Call (.Name "range" p) [a] [] pos) (iRng1 ta) := by
  intro pins s σ H R I h
  refine Call_ (ld_blt I hg hm boot_range (PyProof.Rows.callWith_type1 (thn (ha pos pins s σ H _ I h) fun us s1 ⟨vs, H1, I1, r1, q1⟩ => ?_) hs rfl))
  obtain ⟨j, e, q1, q2, q⟩ := q1
  subst e
  cases r1 with
  | cons r rr =>
    cases rr
    obtain ⟨t, rfl⟩ := r
    exact call_range_1 (range_it I1 (by omega) (by omega) q1 q2 (by simpa using q))

/-! ### for -/
/-- W: the invariant by the turn and a measure; N: what the body is to reach -/
def tFor (wi : TI) (g : TG) (tb : TS) : TS := fun D σ H => wi σ H fun J H1 => ∃ W : Nat → Nat → St → Hp → Prop, (∃ m, W 0 m σ H1) ∧ ∀ i m σ H, W i m σ H →
  (J.stop i H ∧ D.nx σ H) ∨ (J.go i H ∧ ∃ N : St → Hp → Prop, (∀ σ' H', N σ' H' → ∃ m', m' < m ∧ W (i + 1) m' σ' H') ∧ ∀ x H', J.yld i H x H' → g x σ H' fun σ2 H2 => tb { D with nx := N, ct := N, bk := D.nx } σ2 H2)
/-- the records at fp as they stand -/
def pinsAt (fp : List Addr) (h : Heap) : List (Addr × Obj) := fp.filterMap fun b => (h.get? b).map fun o => (b, o)
theorem mem_pinsAt {fp : List Addr} {h : Heap} {b : Addr} {o : Obj} (hb : b ∈ fp) (e : h.get? b = some o) : (b, o) ∈ pinsAt fp h := List.mem_filterMap.mpr ⟨b, hb, by rw [e]; rfl⟩
theorem of_pinsAt {fp : List Addr} {h : Heap} {p : Addr × Obj} (hp : p ∈ pinsAt fp h) : p.1 ∈ fp ∧ h.get? p.1 = some p.2 := by
  obtain ⟨b, hb, e⟩ := List.mem_filterMap.mp hp
  cases q : h.get? b with
  | none => rw [q] at e; cases e
  | some o =>
    rw [q] at e
    have e' : (b, o) = p := Option.some.inj e
    subst e'
    exact ⟨hb, q⟩
theorem Inv.pinned {pins : List (Addr × Obj)} {σ : St} {H : Hp} {s : Shared} {fp : List Addr} (I : Inv X pins σ H s) (hf : ∀ b ∈ fp, FpOk X pins H b) (ho : ∀ b ∈ fp, ∃ o, s.heap.get? b = some o ∧ ∀ v, o.data ≠ .cell v) : Inv X (pins ++ pinsAt fp s.heap) σ H s :=
  I.pins_of fun p hp => (List.mem_append.mp hp).elim (fun z => I.pin p (List.mem_append_right _ z)) fun z => by
    obtain ⟨hb, e⟩ := of_pinsAt z
    obtain ⟨f0, f1, f2, _⟩ := hf p.1 hb
    obtain ⟨o, e', d⟩ := ho p.1 hb
    rw [e] at e'; cases e'
    exact ⟨e, f0, f1, f2, d⟩
theorem Inv.unpinned {pins pl : List (Addr × Obj)} {σ : St} {H : Hp} {s : Shared} (I : Inv X (pins ++ pl) σ H s) : Inv X pins σ H s := I.pins_of fun p hp => I.pin p (List.mem_append_right _ (List.mem_append_left _ hp))
theorem ps_for {iter : Expr} {body : List Stmt} {wi : TI} {g : TG} {tb : TS} {pos : Pos} (hp : PassesOwn (model X.prog X.w) X.A X.env X.xe) (hc : X.calm = true) (hi : PI X tg iter wi) (hg : PG X tg g) (hb : PSs X body tb)
    (hs : ∀ x, foldedSetIterable iter X.env x = pure x := by intro _; rfl) : PS X (.For tg iter body [] pos) (tFor wi g tb) := by
  intro pins s σ H D I h
  refine wpAny_For (thn (hi pins s σ H _ I h) fun v s1 h1 => thn h1 fun itv s2 h2 => ?_) hs
  obtain ⟨it, fp, tn, J, H2, e, I2, T, st2, f2, W, ⟨m0, w0⟩, turn⟩ := h2
  subst e
  -- what stays true of the iterator's objects through the loop
  have stat : ∀ {H' : Hp}, (∀ b ∈ fp, H' b = none) → ∀ b ∈ fp, FpOk X pins H' b := fun hn b hb => ⟨hn b hb, (f2 b hb).2⟩
  refine codeAny_forLoop_any (fun n s' => ∃ i σ' H', Inv X pins σ' H' s' ∧ tn i s'.heap ∧ (∀ b ∈ fp, H' b = none) ∧ W i n σ' H') ?_ m0 ⟨0, σ, H2, I2, st2, fun b hb => (f2 b hb).1, w0⟩
  rintro n s3 ⟨i, σ3, H3, I3, st3, fr3, w3⟩
  rcases turn i n σ3 H3 w3 with ⟨stop, qn⟩ | ⟨go, N, hN, step⟩
  · refine wpAny_passesOwn hp (thn (T.done X rfl rfl rfl hc i pins s3 σ3 H3 X.xe I3 (stat fr3) st3 stop) fun r s4 ⟨hr, I4⟩ => ?_)
    subst hr
    exact wpAny_execs_nil ⟨σ3, H3, I4, qn⟩
  · refine wpAny_passesOwn hp (thn (T.item X rfl rfl rfl hc i pins s3 σ3 H3 X.xe I3 (stat fr3) st3 go) fun r s4 ⟨u, hr, h4⟩ => ?_)
    subst hr
    refine wpAny_passesOwn hp (thn h4 fun _ s5 ⟨x, H5, I5, r5, y5, st5, fr5⟩ => ?_)
    have I5' := I5.pinned (stat fr5) (T.obj _ _ st5)
    refine wpAny_passesOwn hp (thn (hg _ s5 σ3 H5 x u _ I5' r5 (step x H5 y5)) fun _ s6 ⟨σ6, H6, I6, q6⟩ => ?_)
    refine wpAny_passesOwn hp (thn (hb _ s6 σ6 H6 _ I6 q6) fun f s7 q7 => ?_)
    have again : ∀ {σ7 : St} {H7 : Hp}, Inv X (pins ++ pinsAt fp s5.heap) σ7 H7 s7 → N σ7 H7 → ∃ m, m < n ∧ ∃ i σ' H', Inv X pins σ' H' s7 ∧ tn i s7.heap ∧ (∀ b ∈ fp, H' b = none) ∧ W i m σ' H' := fun {σ7 H7} I7 n7 => by
      obtain ⟨m', hm, w7⟩ := hN σ7 H7 n7
      refine ⟨m', hm, i + 1, σ7, H7, I7.unpinned, T.keep _ _ _ st5 fun b hb o e => (I7.pin (b, o) (List.mem_append_right _ (List.mem_append_right _ (mem_pinsAt hb e)))).1, fun b hb => ?_, w7⟩
      obtain ⟨o, e, d⟩ := T.obj _ _ st5 b hb
      exact (I7.pin (b, o) (List.mem_append_right _ (List.mem_append_right _ (mem_pinsAt hb e)))).2.1
    cases f with
    | next => obtain ⟨σ7, H7, I7, n7⟩ := q7; exact again I7 n7
    | cont => obtain ⟨σ7, H7, I7, n7⟩ := q7; exact again I7 n7
    | brk => obtain ⟨σ7, H7, I7, q7⟩ := q7; exact ⟨σ7, H7, I7.unpinned, q7⟩
    | ret v => obtain ⟨x7, σ7, H7, I7, r7, q7⟩ := q7; exact ⟨x7, σ7, H7, I7.unpinned, r7, q7⟩
end

/-! ### the forms one uses -/
end L2

namespace L2
open PySem PySem.Spec PyProof.Rows

abbrev R2 := V → V → Hp → VK → Prop
/-- a two-place operation on values: f is binaryOp op, inplaceOp op or compareOp op -/
def OpR (X : Cx) (f : Value → Value → Sem Value) (r : R2) : Prop :=
  ∀ (pins : List (Addr × Obj)) (s : Shared) (σ : St) (H : Hp) (x y : V) (v u : Value) (Q : VK), Inv X pins σ H s → RelV x v → RelV y u → r x y H Q →
    wpAny (model X.prog X.w) X.A (f v u) (EP X pins σ Q) X.xe s
/-- a call of a value that is known (a builtin, a type) with values -/
def CallR (X : Cx) (f : Value) (r : List V → Hp → VK → Prop) : Prop :=
  ∀ (pins : List (Addr × Obj)) (s : Shared) (σ : St) (H : Hp) (xs : List V) (us : List Value) (Q : VK), Inv X pins σ H s → Vals xs us → r xs H Q →
    wpAny (model X.prog X.w) X.A (call f us) (EP X pins σ Q) X.xe s

def tOp (r : R2) (ta tb : TE) : TE := fun σ H Q => ta σ H fun x H1 => tb σ H1 fun y H2 => r x y H2 Q
/-- ints in, under C, and a value out -/
def rI (C : Int → Int → Prop) (g : Int → Int → V) : R2 := fun x y H Q => ∃ i j, x = .int i ∧ y = .int j ∧ C i j ∧ Q (g i j) H
def rI0 (g : Int → Int → V) : R2 := fun x y H Q => ∃ i j, x = .int i ∧ y = .int j ∧ Q (g i j) H

section
variable {X : Cx} {a b c : Expr} {ta tb tc : TE} {pos : Pos}

theorem binT (ha : PE X a ta) (hb : PE X b tb) {pins : List (Addr × Obj)} {s : Shared} {σ : St} {H : Hp} {R : V → V → Hp → Prop} (I : Inv X pins σ H s)
    (h : ta σ H fun x H1 => tb σ H1 fun y H2 => R x y H2) {Q : Value → Shared → Prop} {f : Value → Value → Sem Value}
    (hf : ∀ v u s2 x y H2, Inv X pins σ H2 s2 → RelV x v → RelV y u → R x y H2 → wpAny (model X.prog X.w) X.A (f v u) Q X.xe s2) :
    wpAny (model X.prog X.w) X.A (eval a X.env) (fun v s₁ => wpAny (model X.prog X.w) X.A (eval b X.env) (fun u s₂ => wpAny (model X.prog X.w) X.A (f v u) Q X.xe s₂) X.xe s₁) X.xe s := by
  refine thn (ha pins s σ H _ I h) fun v s1 ⟨x, H1, I1, r1, q1⟩ => ?_
  refine thn (hb pins s1 σ H1 _ I1 q1) fun u s2 ⟨y, H2, I2, r2, q2⟩ => ?_
  exact hf v u s2 x y H2 I2 r1 r2 q2

theorem pe_op {op : Operator} {r : R2} (ho : OpR X (binaryOp op) r) (ha : PE X a ta) (hb : PE X b tb) : PE X (.BinOp a op b pos) (tOp r ta tb) := by
  intro pins s σ H Q I h
  exact wpAny_BinOp (binT ha hb I h fun v u s2 x y H2 I2 rx ry q => ho pins s2 σ H2 x y v u Q I2 rx ry q)

/-! ### ints -/
theorem opI {f : Value → Value → Sem Value} {C : Int → Int → Prop} {g : Int → Int → Int}
    (rule : ∀ (i j : Int) (t u : Tok) (s : Shared) (Q : Value → Shared → Prop) (E : Value → Shared → Prop), C i j → Q (.int (g i j) s.toks) { s with toks := s.toks + 1 } → wpAny (model X.prog X.w) X.A (f (.int i t) (.int j u)) Q E s) :
    OpR X f (rI C fun i j => .int (g i j)) := by
  intro pins s σ H x y v u Q I rx ry h
  obtain ⟨i, j, rfl, rfl, hc, q⟩ := h
  obtain ⟨t, rfl⟩ := rx
  obtain ⟨t', rfl⟩ := ry
  exact rule i j t t' s _ _ hc ⟨.int (g i j), H, I.tok _, ⟨_, rfl⟩, q⟩
theorem opI0 {f : Value → Value → Sem Value} {g : Int → Int → Int}
    (rule : ∀ (i j : Int) (t u : Tok) (s : Shared) (Q : Value → Shared → Prop) (E : Value → Shared → Prop), Q (.int (g i j) s.toks) { s with toks := s.toks + 1 } → wpAny (model X.prog X.w) X.A (f (.int i t) (.int j u)) Q E s) :
    OpR X f (rI0 fun i j => .int (g i j)) := by
  intro pins s σ H x y v u Q I rx ry h
  obtain ⟨i, j, rfl, rfl, q⟩ := h
  obtain ⟨t, rfl⟩ := rx
  obtain ⟨t', rfl⟩ := ry
  exact rule i j t t' s _ _ ⟨.int (g i j), H, I.tok _, ⟨_, rfl⟩, q⟩
theorem opB0 {f : Value → Value → Sem Value} {g : Int → Int → Bool}
    (rule : ∀ (i j : Int) (t u : Tok) (s : Shared) (Q : Value → Shared → Prop) (E : Value → Shared → Prop), Q (.bool (g i j)) s → wpAny (model X.prog X.w) X.A (f (.int i t) (.int j u)) Q E s) :
    OpR X f (rI0 fun i j => .bl (g i j)) := by
  intro pins s σ H x y v u Q I rx ry h
  obtain ⟨i, j, rfl, rfl, q⟩ := h
  obtain ⟨t, rfl⟩ := rx
  obtain ⟨t', rfl⟩ := ry
  exact rule i j t t' s _ _ ⟨.bl (g i j), H, I, rfl, q⟩

def CDiv (i j : Int) : Prop := 0 < j ∧ j < 1073741824
def CPow (i j : Int) : Prop := 0 ≤ j ∧ j ≤ 1000000 ∧ i.natAbs < 2 ^ 64
def CMul (i j : Int) : Prop := (-(2 ^ 64) < i ∧ i < 2 ^ 64) ∨ (-(2 ^ 64) < j ∧ j < 2 ^ 64)
theorem CMul.ok {i j : Int} (h : CMul i j) : IntMulOk i j := by
  rcases h with ⟨h1, h2⟩ | ⟨h1, h2⟩
  · exact .of_left (intBits_le_64 h1 h2)
  · exact .of_right (intBits_le_64 h1 h2)
theorem two_pow_nn (k : Nat) : (0 : Int) ≤ 2 ^ k := by
  rw [two_pow_cast]
  exact Int.natCast_nonneg _

theorem op_add : OpR X (binaryOp .Add) (rI0 fun i j => .int (i + j)) := opI0 fun _ _ _ _ _ _ _ q => add_int q
theorem op_sub : OpR X (binaryOp .Sub) (rI0 fun i j => .int (i - j)) := opI0 fun _ _ _ _ _ _ _ q => sub_int q
theorem op_mul : OpR X (binaryOp .Mult) (rI CMul fun i j => .int (i * j)) := opI fun _ _ _ _ _ _ _ hc q => mul_int q hc.ok
/-- // by a positive divisor -/
theorem op_fdiv : OpR X (binaryOp .FloorDiv) (rI CDiv fun i j => .int (i / j)) := opI fun i j _ _ _ _ _ hc q => by
  have h1 : (0 : Int) < j := hc.1
  have h2 : j < 1073741824 := hc.2
  exact floordiv_int (by omega) (by rw [Int.fdiv_eq_ediv_of_nonneg i (by omega)]; exact q) (.inl (PyProof.noPylong_small (by omega)))
/-- % by a positive divisor of any size -/
theorem op_mod : OpR X (binaryOp .Mod) (rI (fun _ j => 0 < j) fun i j => .int (i % j)) := opI fun i j _ _ _ _ _ hc q => by
  have h1 : (0 : Int) < j := hc
  exact mod_int' (by omega) (by rw [Int.fmod_eq_emod_of_nonneg i (by omega)]; exact q)
theorem op_pow : OpR X (binaryOp .Pow) (rI CPow fun i j => .int (i ^ j.toNat)) := opI fun _ _ _ _ _ _ _ hc q => pow_int_small hc.1 hc.2.1 hc.2.2 q
theorem op_shr : OpR X (binaryOp .RShift) (rI (fun _ j => 0 ≤ j) fun i j => .int (i / 2 ^ j.toNat)) := opI fun i j _ _ _ _ _ hc q =>
  rshift_int hc (by rw [Int.fdiv_eq_ediv_of_nonneg i (two_pow_nn _)]; exact q)
theorem op_and : OpR X (binaryOp .BitAnd) (rI0 fun i j => .int (Builtin.bitAnd i j)) := opI0 fun _ _ _ _ _ _ _ q => and_int q



/-! ### bools among ints: n += (a < b) -/
end

/-! ### comparisons -/


section
variable {X : Cx} {a b c : Expr} {ta tb tc : TE} {pos : Pos}
theorem fin_bl {pins : List (Addr × Obj)} {σ : St} {H : Hp} {s : Shared} {Q : VK} {k k' : Bool} (I : Inv X pins σ H s) (q : Q (.bl k) H) (e : k = k') : EP X pins σ Q (.bool k') s := by
  subst e
  exact ⟨.bl k, H, I, rfl, q⟩

theorem op_lt : OpR X (compareOp .Lt) (rI0 fun i j => .bl (decide (i < j))) := opB0 fun _ _ _ _ _ _ _ q => lt_int q
theorem op_le : OpR X (compareOp .LtE) (rI0 fun i j => .bl (decide (i ≤ j))) := opB0 fun _ _ _ _ _ _ _ q => le_int q
theorem op_gt : OpR X (compareOp .Gt) (rI0 fun i j => .bl (decide (j < i))) := opB0 fun _ _ _ _ _ _ _ q => gt_int q
/-- the one string within the other -/
theorem op_in_str : OpR X (compareOp .In) (fun x y H Q => ∃ i j, x = .str i ∧ y = .str j ∧ Q (.bl (!(Builtin.Str.occurrences j i 0 j.length 1).isEmpty)) H) := by
  intro pins s σ H x y v u Q I rx ry h
  obtain ⟨i, j, rfl, rfl, q⟩ := h
  obtain ⟨t, rfl⟩ := rx
  obtain ⟨t', rfl⟩ := ry
  exact in_str (fin_bl I q rfl)

/-- is None, is not None: the right side a value none -/
theorem op_isN : OpR X (compareOp .Is) (fun x y H Q => y = .non ∧ Q (.bl (decide (x = .non))) H) := by
  intro pins s σ H x y v u Q I rx ry h
  obtain ⟨rfl, q⟩ := h
  cases ry
  refine is_none_gen (fin_bl I q ?_)
  cases x <;> first
    | (cases rx; rfl)
    | (obtain ⟨t, rfl⟩ := rx; rfl)


/-- two rules for one operation: by cases -/
theorem OpR.or {f : Value → Value → Sem Value} {r r' : R2} (h : OpR X f r) (h' : OpR X f r') : OpR X f (fun x y H Q => r x y H Q ∨ r' x y H Q) := by
  intro pins s σ H x y v u Q I rx ry q
  rcases q with q | q
  · exact h pins s σ H x y v u Q I rx ry q
  · exact h' pins s σ H x y v u Q I rx ry q

theorem nomark (b : Expr) {op : CmpOp} (h : op ≠ .In := by decide) (h2 : op ≠ .NotIn := by decide) : behindInMarks op b = false := by
  have e1 : (op == CmpOp.In) = false := by cases op <;> first | rfl | exact absurd rfl h
  have e2 : (op == CmpOp.NotIn) = false := by cases op <;> first | rfl | exact absurd rfl h2
  cases b <;> simp [behindInMarks, e1, e2]
/-- a comparison as a value; hm: nomark b, or (for in, not in) by with_unfolding_all rfl -/
theorem pe_cmpR {op : CmpOp} {r : R2} (ho : OpR X (compareOp op) r) (ha : PE X a ta) (hb : PE X b tb) (hm : behindInMarks op b = false) : PE X (.Compare a [op] [b] pos) (tOp r ta tb) := by
  intro pins s σ H Q I h
  exact wpAny_Compare1 (binT ha hb I h fun v u s2 x y H2 I2 rx ry q => ho pins s2 σ H2 x y v u Q I2 rx ry q) hm
/-- a reading of a value as a test -/
def tTest (t : TE) : TT := fun σ H Q => t σ H fun x H' => ∃ k, x = .bl k ∧ Q k H'
theorem pt_cmpR {op : CmpOp} {r : R2} (ho : OpR X (compareOp op) r) (ha : PE X a ta) (hb : PE X b tb) (hm : behindInMarks op b = false) : PT X (.Compare a [op] [b] pos) (tTest (tOp r ta tb)) := by
  intro pins s σ H Q I h
  refine wpAny_isTrue_Compare1 (thn (ha pins s σ H _ I h) fun v s1 ⟨x, H1, I1, r1, q1⟩ => thn (hb pins s1 σ H1 _ I1 q1) fun u s2 ⟨y, H2, I2, r2, q2⟩ =>
    thn (ho pins s2 σ H2 x y v u _ I2 r1 r2 q2) fun c s3 ⟨z, H3, I3, r3, k, e, q3⟩ => ?_) hm
  subst e
  cases r3
  exact wpAny_truthy_bool ⟨H3, I3, q3⟩
/-- a op1 b op2 c -/
def tChain (r r' : R2) (ta tb tc : TE) : TE := fun σ H Q => ta σ H fun x H1 => tb σ H1 fun y H2 => r x y H2 fun z H3 => ∃ k, z = .bl k ∧
  (if k = true then tc σ H3 fun w' H4 => r' y w' H4 Q else Q (.bl false) H3)
theorem pe_chain {op op' : CmpOp} {r r' : R2} (ho : OpR X (compareOp op) r) (ho' : OpR X (compareOp op') r') (ha : PE X a ta) (hb : PE X b tb) (hc : PE X c tc)
    (hm : lastMarks [op, op'] [b, c] = false := by with_unfolding_all rfl) : PE X (.Compare a [op, op'] [b, c] pos) (tChain r r' ta tb tc) := by
  intro pins s σ H Q I h
  refine Compare_chain (thn (ha pins s σ H _ I h) fun v s1 ⟨x, H1, I1, r1, q1⟩ => chain_link (thn (hb pins s1 σ H1 _ I1 q1) fun u s2 ⟨y, H2, I2, r2, q2⟩ =>
    thn (ho pins s2 σ H2 x y v u _ I2 r1 r2 q2) fun d s3 ⟨z, H3, I3, r3, k, e, q3⟩ => ?_)) hm
  subst e
  cases r3
  refine wpAny_truthy_bool ?_
  cases k with
  | false => exact ite_ff ⟨.bl false, H3, I3, rfl, q3⟩
  | true => exact ite_tt (chain_last (thn (hc pins s3 σ H3 _ I3 q3) fun w' s4 ⟨z', H4, I4, r4, q4⟩ => ho' pins s4 σ H4 y z' u w' Q I4 r2 r4 q4))
theorem pt_chain {op op' : CmpOp} {r r' : R2} (ho : OpR X (compareOp op) r) (ho' : OpR X (compareOp op') r') (ha : PE X a ta) (hb : PE X b tb) (hc : PE X c tc)
    (hm : lastMarks [op, op'] [b, c] = false := by with_unfolding_all rfl) : PT X (.Compare a [op, op'] [b, c] pos) (tTest (tChain r r' ta tb tc)) := by
  intro pins s σ H Q I h
  refine isTrue_chain (thn (ha pins s σ H _ I h) fun v s1 ⟨x, H1, I1, r1, q1⟩ => test_link (thn (hb pins s1 σ H1 _ I1 q1) fun u s2 ⟨y, H2, I2, r2, q2⟩ =>
    thn (ho pins s2 σ H2 x y v u _ I2 r1 r2 q2) fun d s3 ⟨z, H3, I3, r3, k, e, q3⟩ => ?_)) hm
  subst e
  cases r3
  refine wpAny_truthy_bool ?_
  cases k with
  | false =>
    obtain ⟨k', e', q'⟩ := q3
    cases e'
    exact ite_ff ⟨H3, I3, q'⟩
  | true =>
    refine ite_tt (test_last (thn (hc pins s3 σ H3 _ I3 q3) fun w' s4 ⟨z', H4, I4, r4, q4⟩ => thn (ho' pins s4 σ H4 y z' u w' _ I4 r2 r4 q4) fun d' s5 ⟨z2, H5, I5, r5, k2, e2, q5⟩ => ?_))
    subst e2
    cases r5
    exact wpAny_truthy_bool ⟨H5, I5, q5⟩

/-! ### truth -/
theorem line63 : (sizeLine : Nat) < 2 ^ 63 := by rw [sizeLine_eq]; decide

/-! ### strs and bytes -/
theorem op_add_str : OpR X (binaryOp .Add) (fun x y H Q => ∃ i j, x = .str i ∧ y = .str j ∧ i.length + j.length ≤ sizeLine ∧ Q (.str (i ++ j)) H) := by
  intro pins s σ H x y v u Q I rx ry h
  obtain ⟨i, j, rfl, rfl, hz, q⟩ := h
  obtain ⟨t, rfl⟩ := rx
  obtain ⟨t', rfl⟩ := ry
  exact add_str (fun t' tk => ⟨.str (i ++ j), H, I.tok _, ⟨_, rfl⟩, q⟩) hz


/-! ### scalar builtins, by CallR -/
theorem vals1 {x : V} {us : List Value} (r : Vals [x] us) : ∃ u, us = [u] ∧ RelV x u := by
  cases r with
  | cons r1 r2 => cases r2; exact ⟨_, rfl, r1⟩
theorem vals2 {x y : V} {us : List Value} (r : Vals [x, y] us) : ∃ u w', us = [u, w'] ∧ RelV x u ∧ RelV y w' := by
  cases r with
  | cons r1 r2 =>
    cases r2 with
    | cons r3 r4 => cases r4; exact ⟨_, _, rfl, r1, r3⟩
theorem call_int1 : CallR X (.type "int") (fun xs H Q => (∃ i, xs = [.int i] ∧ Q (.int i) H) ∨ ∃ k, xs = [.bl k] ∧ Q (.int (if k then 1 else 0)) H) := by
  intro pins s σ H xs us Q I r h
  rcases h with ⟨i, rfl, q⟩ | ⟨k, rfl, q⟩
  · obtain ⟨u, rfl, t, rfl⟩ := vals1 r
    exact call_int_int ⟨.int i, H, I, ⟨_, rfl⟩, q⟩
  · obtain ⟨u, rfl, r1⟩ := vals1 r
    cases r1
    exact call_int_bool ⟨.int (if k then 1 else 0), H, I.tok _, ⟨_, rfl⟩, q⟩
theorem call_str_int : CallR X (.type "str") (fun xs H Q => ∃ i, xs = [.int i] ∧ i.natAbs.log2 < 1920 ∧ Q (.str (toString i)) H) := by
  intro pins s σ H xs us Q I r h
  obtain ⟨i, rfl, hz, q⟩ := h
  obtain ⟨u, rfl, t, rfl⟩ := vals1 r
  exact PySem.P.str_of_int hz ⟨.str _, H, I.tok _, ⟨_, rfl⟩, q⟩
end
end L2

namespace L2
open PySem PySem.Spec PyProof.Rows

/-! ### an instance, its attributes a map -/
structure ObjM (h : Heap) (x dx C : Addr) (mA : Str → Option Value) : Prop where
  obj : h.get? x = some (PySem.W.instObj C dx)
  ns : h.Ns1 dx mA
  ne : dx ≠ x

theorem lookIn_ns {h : Heap} {dx : Addr} {mA : Str → Option Value} (n : h.Ns1 dx mA) : ∃ od, h.get? dx = some od ∧ ∀ name, PySem.W.lookIn name od = some (mA name) := by
  obtain ⟨o, es, ep, ho, hd, hk, _, hm⟩ := n
  refine ⟨o, ho, fun name => ?_⟩
  have e := hm name
  unfold nsFind findBy at e
  rw [← Array.find?_toList] at e
  unfold PySem.W.lookIn
  rw [hd]
  dsimp only
  split
  · rename_i y q
    rw [q] at e
    exact congrArg some e
  · rename_i q
    rw [q] at e
    have a : es.toList.any (·.refKey) = false := by
      rw [List.any_eq_false]
      intro y hy
      obtain ⟨z, t, hkey⟩ := hk y (Array.mem_toList_iff.mp hy)
      simp [DictEntry.refKey, hkey]
    have a' : ¬ es.toList.any (·.refKey) = true := by rw [a]; exact Bool.false_ne_true
    rw [if_neg a']
    exact congrArg some e

theorem ObjM.look {h : Heap} {x dx C : Addr} {mA : Str → Option Value} (I : ObjM h x dx C mA) : ∃ od, PySem.W.InstAt h x (PySem.W.instObj C dx) C (some od) ∧ ∀ name, PySem.W.lookIn name od = some (mA name) :=
  let ⟨od, ho, hl⟩ := lookIn_ns I.ns
  ⟨od, ⟨I.obj, rfl, rfl, ho⟩, hl⟩

section
variable {prog : Program} {w : World} {A : Around} {E : Value → Shared → Prop} {s : Shared} {K : PySem.W.Frag} {x dx C f : Addr} {mA : Str → Option Value} {name : Str} {v : Value}





end

/-! ### the attributes as a list of pairs -/


section
variable {P : Program} {w : World} {H H' : Hp} {h h' : Heap} {a C dx : Addr} {fs fs' : List (Str × V)}
theorem ins_get (hok : HOk P w H h) (e : H a = some (.ins C dx fs)) : ∃ mA, ObjM h a dx C mA ∧ (∀ f, RelO (fs.lookup f) (mA f)) ∧ PySem.Within mA (fs.map (·.1)) ∧ fs.length ≤ 1000 ∧ H dx = some (.own a) := by
  obtain ⟨d, z, ne, ob, mA, n, r, q⟩ := (show ObjOk P w H h a (.ins C dx fs) from hok a _ e)
  exact ⟨mA, ⟨ob, n, ne⟩, r, q, z, d⟩
end

/-! ### what of the text a class must have -/
structure Cls (K : PySem.W.Frag) (C : Addr) : Prop where
  pg : PySem.W.plainGet K C Str.empty = true
  hd : PySem.W.hasDictIn K C = true
  po : PySem.W.plainOver K C = true
  sa : PySem.W.findIn K (.ref C) "__setattr__" = some (some (.builtin "object.__setattr__"))
theorem Cls.get {K : PySem.W.Frag} {C : Addr} (c : Cls K C) (f : Str) : PySem.W.plainGet K C f = true := c.pg
/-- a constant of the class -/
structure Con (K : PySem.W.Frag) (C : Addr) (f : Str) (v : V) (u : Value) : Prop where
  at_ : PySem.W.findIn K (.ref C) f = some (some u)
  rel : RelV v u
  get : PySem.W.specialIn K u "__get__" = some none
  cp : PySem.W.copiedNames.contains f = false
/-- a method: a plain def of the class or of one above it -/
structure Meth (K : PySem.W.Frag) (C : Addr) (m : Str) (f : Addr) : Prop where
  at_ : PySem.W.findIn K (.ref C) m = some (some (.ref f))
  fn : PySem.W.isFn K (.ref f) = true
  kp : PySem.W.keepIn K (.ref f) = true

section
variable {X : Cx} {pins : List (Addr × Obj)} {σ : St} {H : Hp} {s : Shared} {a C dx : Addr} {fs : List (Str × V)} {f : Str} {v : V} {A : Around} {E : Value → Shared → Prop}





/-- a new instance, tracked, without attributes -/
theorem Inv.made (I : Inv X pins σ H s) : Inv X pins σ (upd (upd H s.heap.objs.size (.own (s.heap.objs.size + 1))) (s.heap.objs.size + 1) (.ins C s.heap.objs.size []))
    { s with heap := (s.heap.push PySem.W.emptyDict).push (PySem.W.instObj C s.heap.objs.size) } := by
  have e1 : (s.heap.push PySem.W.emptyDict).get? s.heap.objs.size = some PySem.W.emptyDict := Heap.get?_push_size s.heap rfl
  have e2 : ((s.heap.push PySem.W.emptyDict).push (PySem.W.instObj C s.heap.objs.size)).get? (s.heap.objs.size + 1) = some (PySem.W.instObj C s.heap.objs.size) := by
    have := Heap.get?_push_size (s.heap.push PySem.W.emptyDict) (o := PySem.W.instObj C s.heap.objs.size) rfl
    rwa [Heap.size_push] at this
  have e3 : (s.heap.push PySem.W.emptyDict).Ns s.heap.objs.size (fun _ => none) := ⟨PySem.W.emptyDict, #[], _, e1, rfl, (fun e he => absurd he (by simp)), fun _ => rfl⟩
  have I1 := I.laid (a := s.heap.objs.size) (o := .own (s.heap.objs.size + 1)) (h' := s.heap.push PySem.W.emptyDict) (t' := s.toks) (fun b u q => Heap.get?_push_of_some _ q) (Nat.le_refl _) ⟨_, e1⟩
  refine I1.laid (a := s.heap.objs.size + 1) (o := .ins C s.heap.objs.size []) (t' := s.toks) (fun b u q => Heap.get?_push_of_some _ q) (Nat.le_of_eq (Heap.size_push _ _)) ?_
  have ne : s.heap.objs.size ≠ s.heap.objs.size + 1 := Nat.ne_of_lt (Nat.lt_succ_self _)
  refine ⟨by rw [upd_ne ne, upd_same], Nat.zero_le _, ne, e2, fun _ => none, (Heap.Ns1.of_empty e3).at fun o q => Heap.get?_push_of_some _ q, fun _ => True.intro, fun y hy => absurd rfl hy⟩

end

/-! ### readings and rules -/

section
variable {X : Cx} {o e value : Expr} {f : Str} {pos pos' tpos : Pos} {ta tv : TE}

end

/-! ### isinstance -/
section
variable {X : Cx} {pins : List (Addr × Obj)} {σ : St} {H : Hp} {s : Shared} {A : Around} {E : Value → Shared → Prop} {Q : Value → Shared → Prop} {c : Value} {b : Bool}
/-- the type of a value, as the fragment's deciders take it; for an instance its class -/
inductive TyOf (K : PySem.W.Frag) (H : Hp) : V → Value → Prop where
  | non : TyOf K H .non (.type "NoneType")
  | bl (x : Bool) : TyOf K H (.bl x) (.type "bool")
  | int (i : Int) : TyOf K H (.int i) (.type "int")
  | str (x : Str) : TyOf K H (.str x) (.type "str")
  | flt (x : UInt64) : TyOf K H (.flt x) (.type "float")
  | lst {a : Addr} {xs : List V} (e : H a = some (.lst xs)) : TyOf K H (.ref a) (.type "list")
  | frz {a : Addr} {o : Obj} {xs : List V} (e : H a = some (.frz o (.lst xs))) : TyOf K H (.ref a) (.type "list")
  | tup {a : Addr} {xs : List V} (e : H a = some (.tup xs)) : TyOf K H (.ref a) (.type "tuple")
  | dK {a : Addr} {kvs : List (Key × V)} (e : H a = some (.dK kvs)) : TyOf K H (.ref a) (.type "dict")
  | dT {a : Addr} {kvs : List (List Key × V)} (e : H a = some (.dT kvs)) : TyOf K H (.ref a) (.type "dict")
  | ins {a C dx : Addr} {fs : List (Str × V)} (e : H a = some (.ins C dx fs)) (cl : Cls K C) (ha : PySem.W.findIn K (.ref C) "__class__" = some (some (.builtin "object.__class__")))
      (hn : PySem.W.specialIn K (.builtin "object.__class__") "__get__" = some (some (.builtin "getset_descriptor.__get__"))) (htk : PySem.W.takesIn K (.builtin "object.__class__") = some true)
      (hm : PySem.W.mroIn K C (.type "object") = some true) : TyOf K H (.ref a) (.ref C)
/-- isinstance(x, c) for one class c, a built-in or an own one: kitOne's answer -/
theorem isinst_ok {x : V} {u t : Value} (I : Inv X pins σ H s) (rx : RelV x u) (ty : TyOf X.K H x t) (e : PySem.W.kitOne X.K t c = some b) (h : ∀ tk, Q (.bool b) { s with toks := tk }) :
    wpAny (model X.prog X.w) A (call (.builtin "isinstance") [u, c]) Q E s := by
  cases ty with
  | non => cases (show u = Value.none from rx); exact PySem.W.kia_one PySem.W.kitx_none I.kIn True.intro e (fun z => nomatch z) h
  | bl y => cases (show u = Value.bool y from rx); exact PySem.W.kia_one PySem.W.kitx_bool I.kIn True.intro e (fun z => nomatch z) h
  | int i => obtain ⟨t, q⟩ := (show ∃ t, u = Value.int i t from rx); cases q; exact PySem.W.kia_one PySem.W.kitx_int I.kIn True.intro e (fun z => nomatch z) h
  | str y => obtain ⟨t, q⟩ := (show ∃ t, u = Value.str y t from rx); cases q; exact PySem.W.kia_one PySem.W.kitx_str I.kIn True.intro e (fun z => nomatch z) h
  | flt y => obtain ⟨t, q⟩ := (show ∃ t, u = Value.float y t from rx); cases q; exact PySem.W.kia_one PySem.W.kitx_float I.kIn True.intro e (fun z => nomatch z) h
  | @lst a xs ea =>
    cases (show u = Value.ref a from rx)
    obtain ⟨_, _, n, _, h1⟩ := (show ObjOk X.prog X.w H s.heap a (.lst xs) from I.hok a _ ea)
    exact PySem.W.kia_one PySem.W.kitx_list I.kIn ⟨_, h1, rfl⟩ e (fun z => nomatch z) h
  | @frz a ob xs ea =>
    cases (show u = Value.ref a from rx)
    obtain ⟨_, _, _, n, _, h1⟩ := (show ObjOk X.prog X.w H s.heap a (.frz ob (.lst xs)) from I.hok a _ ea)
    exact PySem.W.kia_one PySem.W.kitx_list I.kIn ⟨_, h1, rfl⟩ e (fun z => nomatch z) h
  | @tup a xs ea =>
    cases (show u = Value.ref a from rx)
    obtain ⟨_, _, _, p⟩ := (show ObjOk X.prog X.w H s.heap a (.tup xs) from I.hok a _ ea)
    obtain ⟨o, h1, h2, _⟩ := p
    exact PySem.W.kia_one PySem.W.kitx_tuple I.kIn ⟨o, h1, h2⟩ e (fun z => nomatch z) h
  | @dK a kvs ea =>
    cases (show u = Value.ref a from rx)
    obtain ⟨_, _, vs, _, p⟩ := (show ObjOk X.prog X.w H s.heap a (.dK kvs) from I.hok a _ ea)
    obtain ⟨o, es, ep, h1, h2, _⟩ := p
    exact PySem.W.kia_one PySem.W.kitx_dict I.kIn ⟨o, h1, h2.1⟩ e (fun z => nomatch z) h
  | @dT a kvs ea =>
    cases (show u = Value.ref a from rx)
    obtain ⟨_, _, xs, _, o, es, ep, h1, h2, _⟩ := (show ObjOk X.prog X.w H s.heap a (.dT kvs) from I.hok a _ ea)
    exact PySem.W.kia_one PySem.W.kitx_dict I.kIn ⟨o, h1, h2.1⟩ e (fun z => nomatch z) h
  | @ins a C dx fs ea cl ha hn htk hm =>
    cases (show u = Value.ref a from rx)
    obtain ⟨mA, O, _⟩ := ins_get I.hok ea
    obtain ⟨od, J, _⟩ := O.look
    exact PySem.W.kia_one (PySem.W.kitx_own (cl.get _) cl.hd ha hn htk hm) I.kIn J e (fun z => nomatch z) h
end
end L2

namespace L2
open PySem PySem.Spec PyProof.Rows

/-! ### room -/
structure Room (k : Nat) (A : Around) : Prop where
  hd : A.handled = none
  dp : A.depth + 3 * k + 5 < recursionLimit
  un : A.units + 16 * k + 200 < cLine
theorem Room.mono {j k : Nat} {A : Around} (r : Room k A) (h : j ≤ k) : Room j A := ⟨r.hd, by have := r.dp; omega, by have := r.un; omega⟩
theorem Room.deeper {k : Nat} {A : Around} (r : Room (k + 1) A) (env : Env) : Room k (A.deeper env) :=
  ⟨r.hd, by have := r.dp; show A.depth + 1 + 3 * k + 5 < _; omega, by have := r.un; show A.units + 3 + 16 * k + 200 < _; omega⟩
theorem Room.in1 {k : Nat} {A : Around} (r : Room (k + 1) A) : Room k A.in1 :=
  ⟨r.hd, by have := r.dp; show A.depth + 3 * k + 5 < _; omega, by have := r.un; show A.units + 1 + 16 * k + 200 < _; omega⟩
theorem make_depth {A : Around} {C : Addr} {us : List Value} {kw : List (Str × Value)} : (A.under (.builtin "type.__call__" ⟨.ref C :: us, kw⟩)).depth = A.depth + 1 := by
  first | rfl | simp [Around.under, Code.weight, Code.isCreation, Code.isGuard, Code.isCaller, Code.frames, Code.isFrame, guardIds]
theorem make_units {A : Around} {C : Addr} {us : List Value} {kw : List (Str × Value)} : (A.under (.builtin "type.__call__" ⟨.ref C :: us, kw⟩)).units = A.units + 1 := by
  first | rfl | simp [Around.under, Code.cUnits, Code.frames, Code.isFrame]
theorem Room.make {k : Nat} {A : Around} (r : Room (k + 1) A) (C : Addr) (us : List Value) (kw : List (Str × Value)) : Room k (A.under (.builtin "type.__call__" ⟨.ref C :: us, kw⟩)) :=
  ⟨r.hd, by have := r.dp; rw [make_depth]; omega, by have := r.un; rw [make_units]; omega⟩
theorem Room.depth {k : Nat} {A : Around} (r : Room k A) : A.depth < recursionLimit := by have := r.dp; omega
theorem Room.units {k : Nat} {A : Around} (r : Room k A) : A.units + 64 < cLine := by have := r.un; omega

/-! ### argument lists and displays -/
def tNil : TA := fun _ H Q => Q [] H
def tCons (ta : TE) (tr : TA) : TA := fun σ H Q => ta σ H fun x H1 => tr σ H1 fun xs H2 => Q (x :: xs) H2
section
variable {X : Cx} {e : Expr} {es : List Expr} {te : TE} {t : TA} {pos : Pos}
theorem pa_nil : PA X [] tNil := fun _ _ _ _ H Q I h => Calls.spliced_nil ⟨[], H, I, .nil, h⟩
theorem pa_cons (ha : PE X e te) (hr : PA X es t) (hs : starEach (e :: es) X.env = (false, eval e X.env) :: starEach es X.env := by rfl) : PA X (e :: es) (tCons te t) := by
  intro pos pins s σ H Q I h
  rw [hs]
  show wpAny _ _ (spliced ((false, eval e X.env) :: backTo pos (starEach es X.env))) _ _ s
  refine Calls.spliced_cons (thn (ha pins s σ H _ I h) fun u s1 ⟨x, H1, I1, r1, q1⟩ => ?_)
  exact thn (hr pos pins s1 σ H1 _ I1 q1) fun us s2 ⟨xs, H2, I2, r2, q2⟩ => ⟨x :: xs, H2, I2, .cons r1 r2, q2⟩

/-- a tuple, a list of written items -/
def tTup (t : TA) : TE := fun σ H Q => t σ H fun xs H1 => xs.length ≤ sizeLine ∧ ∀ p, H1 p = none → Q (.ref p) (upd H1 p (.tup xs))
def tLst (t : TA) : TE := fun σ H Q => t σ H fun xs H1 => xs.length ≤ sizeLine ∧ ∀ p, H1 p = none → Q (.ref p) (upd H1 p (.lst xs))
theorem pe_tup {x1} (h : PA X es t) : PE X (.Tuple es x1 pos) (tTup t) := by
  intro pins s σ H Q I hq
  refine wpAny_Tuple_spliced (thn (h pos pins s σ H _ I hq) fun us s1 ⟨xs, H1, I1, r, z, q⟩ => ⟨by rw [← r.length]; exact z, ?_⟩)
  have hf : H1 s1.heap.objs.size = none := I1.hok.fresh (Nat.le_refl _)
  refine ⟨.ref s1.heap.objs.size, upd H1 s1.heap.objs.size (.tup xs), I1.laid (t' := s1.toks) (fun b u e => Heap.get?_push_of_some _ e) (Nat.le_refl _) ?_, rfl, q _ hf⟩
  exact ⟨z, us, r, ⟨_, Heap.get?_push_size _ rfl, rfl, _, rfl⟩⟩
theorem pe_lst (h : PA X es t) : PE X (.List es pos) (tLst t) := by
  intro pins s σ H Q I hq
  refine wpAny_List_spliced (thn (h pos pins s σ H _ I hq) fun us s1 ⟨xs, H1, I1, r, z, q⟩ => ⟨by rw [← r.length]; exact z, ?_⟩)
  have hf : H1 s1.heap.objs.size = none := I1.hok.fresh (Nat.le_refl _)
  refine ⟨.ref s1.heap.objs.size, upd H1 s1.heap.objs.size (.lst xs), I1.laid (t' := s1.toks) (fun b u e => Heap.get?_push_of_some _ e) (Nat.le_refl _) ?_, rfl, q _ hf⟩
  exact ⟨z, us, 0, r, Heap.get?_push_size _ rfl⟩
end

/-! ### what a def promises -/
/-- a def's promise: the bound arguments in the parameters' order, the heap, the wanted end, the wanted exception -/
abbrev Sp := List V → Hp → VK → XK → Prop
/-- how an exception lies behind a call (file 08 gives it): the callers' frames, abstract heap and state ahead of the call, the wish, the exception, the state -/
abbrev CXT := List Env → Hp → Shared → XK → Value → Shared → Prop

/-- the state at a call -/
structure Env0 (P : Program) (w : World) (K : PySem.W.Frag) (mg : Str → Option Value) (base : Heap) (A : Around) (outer : List Env) (s : Shared) (H : Hp) : Prop where
  frames : A.frames = some outer
  mod : Mod K mg base
  bs : ∀ b o, base.get? b = some o → s.heap.get? b = some o ∧ H b = none
  bsz : base.objs.size ≤ s.heap.objs.size
  funs : s.heap.FunFrames base outer
  frf : ∀ b ∈ frs outer, H b = none
  hok : HOk P w H s.heap
  bare : AllBare s.gens
/-- a call's end -/
def CE (outer : List Env) (P : Program) (w : World) (H : Hp) (s : Shared) (Q : VK) (u : Value) (s' : Shared) : Prop :=
  ∃ v H', s'.os = s.os ∧ AllBare s'.gens ∧ Un (frs outer) [] H H' s.heap s'.heap ∧ HOk P w H' s'.heap ∧ RelV v u ∧ Q v H'
def CR (CX : CXT) (outer : List Env) (P : Program) (w : World) (H : Hp) (s : Shared) (Q : VK) (E : XK) (r : Result) (s' : Shared) : Prop :=
  match r with
  | .ok (.ret u) => CE outer P w H s Q u s'
  | .ok _ => False
  | .error e => CX outer H s E e s'
structure FnOk (P : Program) (w : World) (K : PySem.W.Frag) (mg : Str → Option Value) (base : Heap) (CX : CXT) (k : Nat) (f : Addr) (fd : FuncData) (ps : List Str) (sp : Sp) : Prop where
  len : ∀ vs H Q E, sp vs H Q E → vs.length = ps.length
  run : ∀ (A : Around) (outer : List Env) (s : Shared) (H : Hp) (args : Args) (us : List Value) (vs : List V) (Q : VK) (E : XK), Room k A → Env0 P w K mg base A outer s H → BindsTo s fd args (ps.zip us) → Vals vs us → sp vs H Q E →
    codeAny (model P w) A (.call (.ref f) args) (CR CX outer P w H s Q E) s
theorem FnOk.mono {P : Program} {w : World} {K : PySem.W.Frag} {mg : Str → Option Value} {base : Heap} {CX : CXT} {j k : Nat} {f : Addr} {fd : FuncData} {ps : List Str} {sp : Sp} (F : FnOk P w K mg base CX j f fd ps sp) (h : j ≤ k) :
    FnOk P w K mg base CX k f fd ps sp := ⟨F.len, fun A outer s H args us vs Q E hr => F.run A outer s H args us vs Q E (hr.mono h)⟩
/-- a weaker promise -/
theorem FnOk.imp {P : Program} {w : World} {K : PySem.W.Frag} {mg : Str → Option Value} {base : Heap} {CX : CXT} {k : Nat} {f : Addr} {fd : FuncData} {ps : List Str} {sp sp' : Sp} (F : FnOk P w K mg base CX k f fd ps sp)
    (h : ∀ vs H Q E, sp' vs H Q E → sp vs H Q E) : FnOk P w K mg base CX k f fd ps sp' :=
  ⟨fun vs H Q E q => F.len vs H Q E (h _ _ _ _ q), fun A outer s H args us vs Q E hr he hb hv hs => F.run A outer s H args us vs Q E hr he hb hv (h _ _ _ _ hs)⟩

theorem Env0.make {P : Program} {w : World} {K : PySem.W.Frag} {mg : Str → Option Value} {base : Heap} {A : Around} {outer : List Env} {s : Shared} {H : Hp} (e : Env0 P w K mg base A outer s H) (C : Addr) (us : List Value) (kw : List (Str × Value)) :
    Env0 P w K mg base (A.under (.builtin "type.__call__" ⟨.ref C :: us, kw⟩)) outer s H := ⟨by first | exact e.frames | (simpa [Around.under, Code.envs, Code.isFrame, pushEnvs] using e.frames), e.mod, e.bs, e.bsz, e.funs, e.frf, e.hok, e.bare⟩
theorem Env0.in1 {P : Program} {w : World} {K : PySem.W.Frag} {mg : Str → Option Value} {base : Heap} {A : Around} {outer : List Env} {s : Shared} {H : Hp} (e : Env0 P w K mg base A outer s H) :
    Env0 P w K mg base A.in1 outer s H := ⟨e.frames, e.mod, e.bs, e.bsz, e.funs, e.frf, e.hok, e.bare⟩

section
variable {X : Cx} {pins : List (Addr × Obj)} {σ : St} {H : Hp} {s s' : Shared}
/-- from a body: what a callee wants -/
theorem Inv.env0 (I : Inv X pins σ H s) : Env0 X.prog X.w X.K X.mg X.base X.A X.stack s H :=
  ⟨I.ok.frames, I.ok.mod, I.bs, Nat.le_trans I.ok.bsz I.sz, I.stack, I.stkFree, I.hok, I.bare⟩
/-- behind a call -/
theorem Inv.after {Q : VK} {u : Value} (I : Inv X pins σ H s) (h : CE X.stack X.prog X.w H s Q u s') : EP X pins σ Q u s' := by
  obtain ⟨v, H', os, bare, un, hok, r, q⟩ := h
  obtain ⟨hh, g, d, t, os'⟩ := s'
  obtain rfl : os' = s.os := os
  exact ⟨v, H', I.call (h' := hh) (g' := g) (d' := d) (t' := t) (ch := []) un hok bare (fun b z => absurd z (by simp)), r, q⟩
end

/-! ### calls -/

/-- how the parameters are bound: us the positional arguments, kw the keywords' values by name, ds the defaults that fill up -/
def Binds (K : PySem.W.Frag) (fd : FuncData) (ps : List Str) (ds : List Value) : Prop :=
  ∀ (s : Shared) (us : List Value), K.In s.heap → (us ++ ds).length = ps.length → BindsTo s fd ⟨us, []⟩ (ps.zip (us ++ ds))
/-- every parameter is given -/
theorem Binds.all {K : PySem.W.Frag} {fd : FuncData} {ps : List Str} (h : ∀ us : List Value, us.length = ps.length → bindArgs fd ⟨us, []⟩ = pure (ps.zip us)) : Binds K fd ps [] := fun s us _ hl => by
  rw [List.append_nil] at hl ⊢
  exact .of_eq (h us hl)


section
variable {X : Cx} {CX : CXT} {k : Nat} {f C : Addr} {fd : FuncData} {ps : List Str} {sp : Sp} {dvs : List V} {ds : List Value} {E : XK} {x m : Str} {p pos apos : Pos} {e o : Expr} {es : List Expr} {ta : TE} {t : TA}




/-- what a class must have to be made -/
structure Mk (K : PySem.W.Frag) (C f : Addr) : Prop where
  makes : PySem.W.makesIn K C = true
  init : PySem.W.findIn K (.ref C) "__init__" = some (some (.ref f))
  fn : PySem.W.isFn K (.ref f) = true
  kp : PySem.W.keepIn K (.ref C) = true

end

/-! ### keywords -/
section
variable {X : Cx} {CX : CXT} {k : Nat} {f C : Addr} {fd : FuncData} {ps ks : List Str} {sp : Sp} {E : XK} {x m : Str} {p pos apos kpos : Pos} {e o : Expr} {es : List Expr} {kws : List Keyword} {te ta : TE} {t tk : TA} {nm : Option Str}

/-- how a call with keywords binds: g puts the positional values us and the keywords' values ws (names ks) in the parameters' order, defaults among them -/
structure KBinds (K : PySem.W.Frag) (fd : FuncData) (ps ks : List Str) (g : List Value → List Value → List Value) (gV : List V → List V → List V) : Prop where
  to : ∀ (s : Shared) (us ws : List Value), K.In s.heap → (g us ws).length = ps.length → BindsTo s fd ⟨us, ks.zip ws⟩ (ps.zip (g us ws))
  rel : ∀ {vs : List V} {us : List Value} {zs : List V} {ws : List Value}, Vals vs us → Vals zs ws → Vals (gV vs zs) (g us ws)
variable {g : List Value → List Value → List Value} {gV : List V → List V → List V}
end

/-! ### a def's body keeps its promise -/
/-- names: the parameters first -/
structure FnScope (N P : List Str) (sc : Scope) : Prop where
  kind : sc.kind = .function
  co : sc.isCoroutine = false
  gen : sc.isGenerator = false
  nd : N.Nodup
  pre : N.take P.length = P
  par : ∀ x ∈ P, sc.names.lookup x = some .local ∨ sc.names.lookup x = some .cell
  nofree : ∀ y ∈ sc.names, y.2 ≠ .free

theorem bindL_out {kindOf : Str → Option NameKind} {x : Str} : ∀ {binds : List (Str × Value)} {m : Str → Option Value}, (∀ v, (x, v) ∉ binds) → bindL kindOf binds m x = m x
  | [], _, _ => rfl
  | (n, v) :: r, m, h => by
    unfold bindL
    rw [bindL_out fun w hw => h w (List.mem_cons_of_mem _ hw)]
    split
    · have : x ≠ n := by rintro rfl; exact h v List.mem_cons_self
      simp [this]
    · rfl
theorem bindC_out {kindOf : Str → Option NameKind} {x : Str} : ∀ {binds : List (Str × Value)} {m : Str → Option Value}, (∀ v, (x, v) ∉ binds) → bindC kindOf binds m x = m x
  | [], _, _ => rfl
  | (n, v) :: r, m, h => by
    unfold bindC
    rw [bindC_out fun w hw => h w (List.mem_cons_of_mem _ hw)]
    split
    · rfl
    · have : x ≠ n := by rintro rfl; exact h v List.mem_cons_self
      simp [this]
theorem bindL_get {kindOf : Str → Option NameKind} {x : Str} {v : Value} : ∀ {P : List Str} {vs : List Value} {i : Nat} {m : Str → Option Value}, P.Nodup → P[i]? = some x → vs[i]? = some v → kindOf x = some .local →
    bindL kindOf (P.zip vs) m x = some v
  | [], _, _, _, _, h, _, _ => by simp at h
  | _ :: _, [], _, _, _, _, h, _ => by simp at h
  | p :: P, w :: vs, 0, m, nd, h1, h2, hk => by
    simp at h1 h2; subst h1; subst h2
    show bindL kindOf ((p, w) :: P.zip vs) m p = _
    unfold bindL
    rw [bindL_out fun v hv => (List.nodup_cons.mp nd).1 (List.of_mem_zip hv).1, if_pos hk]
    simp
  | p :: P, w :: vs, i + 1, m, nd, h1, h2, hk => by
    show bindL kindOf ((p, w) :: P.zip vs) m x = _
    unfold bindL
    exact bindL_get (i := i) (List.nodup_cons.mp nd).2 (by simpa using h1) (by simpa using h2) hk
theorem bindC_get {kindOf : Str → Option NameKind} {x : Str} {v : Value} : ∀ {P : List Str} {vs : List Value} {i : Nat} {m : Str → Option Value}, P.Nodup → P[i]? = some x → vs[i]? = some v → kindOf x ≠ some .local →
    bindC kindOf (P.zip vs) m x = some v
  | [], _, _, _, _, h, _, _ => by simp at h
  | _ :: _, [], _, _, _, _, h, _ => by simp at h
  | p :: P, w :: vs, 0, m, nd, h1, h2, hk => by
    simp at h1 h2; subst h1; subst h2
    show bindC kindOf ((p, w) :: P.zip vs) m p = _
    unfold bindC
    rw [bindC_out fun v hv => (List.nodup_cons.mp nd).1 (List.of_mem_zip hv).1, if_neg hk]
    simp
  | p :: P, w :: vs, i + 1, m, nd, h1, h2, hk => by
    show bindC kindOf ((p, w) :: P.zip vs) m x = _
    unfold bindC
    exact bindC_get (i := i) (List.nodup_cons.mp nd).2 (by simpa using h1) (by simpa using h2) hk

/-- the names' values at the entry -/
def start (N : List Str) (vs : List V) : St := vs.map some ++ List.replicate (N.length - vs.length) none

/-- the context of a def's body, at its entry; an exception leaves the frame, then lies as CX says -/
def cxOf (CX : CXT) (P : Program) (w : World) (K : PySem.W.Frag) (mg : Str → Option Value) (base : Heap) (N : List Str) (qual : Str) (scope : Scope) (f : Addr) (cd : Value) (A : Around) (outer : List Env) (s : Shared) (H : Hp) (E : XK) : Cx where
  prog := P
  w := w
  K := K
  mg := mg
  base := base
  A := A.deeper (envOfC qual scope s.heap.objs.size f cd)
  N := N
  s₀ := s
  H₀ := H
  env := envOfC qual scope s.heap.objs.size f cd
  outer := outer
  stack := envOfC qual scope s.heap.objs.size f cd :: outer
  ex := []
  calm := true
  fn := fun _ => true
  pn := []
  xe := fun e s' => wpAny (model P w) (A.deeper (envOfC qual scope s.heap.objs.size f cd)) (leaving (envOfC qual scope s.heap.objs.size f cd) e) (fun _ s'' => CX outer H s E e s'') (fun e' s'' => CX outer H s E e' s'') s'

theorem cell_has {sc : Scope} {n : Nat} {x : Str} (h : sc.names.lookup x = some .cell) : ∃ c, (cellsFrom n sc.names []).lookup x = some c := by
  have q := PySem.W.cellsFrom_some sc.names n [] (.inl h)
  exact Option.isSome_iff_exists.mp q

theorem inv_start {CX : CXT} {P : Program} {w : World} {K : PySem.W.Frag} {mg : Str → Option Value} {base : Heap} {N ps : List Str} {qual : Str} {scope : Scope} {f : Addr} {cd : Value} {A : Around} {outer : List Env} {s s1 : Shared} {H : Hp} {E : XK} {us : List Value} {vs : List V}
    (S : FnScope N ps scope) (hd : A.handled = none) (e0 : Env0 P w K mg base A outer s H) (hl : vs.length = ps.length) (r : Vals vs us)
    (x : InCallC s s.heap.objs.size (bindL (envOfC qual scope s.heap.objs.size f cd).kindOf (ps.zip us) fun _ => none) (cellsFrom (s.heap.objs.size + 1) scope.names []) (bindC (envOfC qual scope s.heap.objs.size f cd).kindOf (ps.zip us) fun _ => none) s1) :
    Inv (cxOf CX P w K mg base N qual scope f cd A outer s H E) [] (start N vs) H s1 := by
  have hpl : ps.length ≤ N.length := by have := congrArg List.length S.pre; rw [List.length_take] at this; omega
  obtain ⟨h1, tk, rfl, hk⟩ := x.done
  have noA : ∀ b : Addr, b ∉ (cxOf CX P w K mg base N qual scope f cd A outer s H E).ex := fun b z => absurd (show b ∈ ([] : List Addr) from z) (by simp)
  refine ⟨⟨e0.mod, S.kind, rfl, rfl, Nat.le_refl _, fun y z c h1 h2 => ?_, fun y hy => ?_, fun y c _ h => ?_, fun _ => hd, Around.frames_deeper e0.frames, .inr ⟨rfl, rfl⟩, fun b z => absurd z (noA b), e0.bs, e0.bsz, fun b _ _ => noA b, fun b z => absurd z (noA b), e0.funs, e0.frf⟩,
    rfl, e0.bare, Un.kept hk, ⟨_, x.toInCall.ns, fun i y v h1 h2 h3 => ?_⟩, fun y c h => ⟨_, x.cell y c h⟩, e0.hok.fresh (Nat.le_refl _), fun y c h => ?_, fun p hp => absurd (show p ∈ ([] : List (Addr × Obj)) from hp) (by simp), e0.hok.kept hk, ?_⟩
  · exact name_of_addr x.apart (PySem.mem_of_lookup h1) (PySem.mem_of_lookup h2)
  · have hy : scope.names.lookup y = some .cell ∨ scope.names.lookup y = some .free := hy
    rcases hy with hy | hy
    · exact cell_has hy
    · exact absurd rfl (S.nofree _ (PySem.mem_of_lookup hy))
  · exact Nat.le_of_lt (x.above y c (PySem.mem_of_lookup h))
  · have hi : i < vs.length := by
      unfold start at h2
      by_cases hi : i < vs.length
      · exact hi
      · rw [List.getElem?_append_right (by simpa using hi)] at h2
        rw [List.getElem?_replicate] at h2
        split at h2 <;> cases h2
    have ha : vs[i]? = some v := by
      unfold start at h2
      rw [List.getElem?_append_left (by simpa using hi), List.getElem?_map] at h2
      cases e : vs[i]? with
      | none => rw [e] at h2; cases h2
      | some a => rw [e] at h2; cases h2; rfl
    obtain ⟨u, hu, rv⟩ := r.get ha
    have hp : ps[i]? = some y := by
      rw [← S.pre, List.getElem?_take_of_lt (by omega)]; exact h1
    have ndP : ps.Nodup := by rw [← S.pre]; exact S.nd.sublist (List.take_sublist _ _)
    refine ⟨u, rv, ?_⟩
    rcases S.par y (List.mem_of_getElem? hp) with k | k
    · exact .inl ⟨k, bindL_get ndP hp hu k⟩
    · obtain ⟨c, e⟩ := cell_has (n := s.heap.objs.size + 1) k
      refine .inr ⟨.inl k, c, e, ?_⟩
      have q := x.cell y c e
      rw [bindC_get ndP hp hu (by show scope.names.lookup y ≠ _; rw [k]; decide)] at q
      exact q
  · exact e0.hok.fresh (Nat.le_of_lt (x.above y c (PySem.mem_of_lookup h)))
  · unfold start
    show _ = N.length
    rw [List.length_append, List.length_map, List.length_replicate]
    omega

/-- THE RULE: a def (or a method) of the text, by its body. The body's reading t is chosen for each entry; it is run at the parameters' values -/
theorem fn_of {CX : CXT} {P : Program} {w : World} {K : PySem.W.Frag} {mg : Str → Option Value} {base : Heap} {k : Nat} {f : Addr} {name qual : Str} {params : Arguments} {body : List Stmt} {scope : Scope} {dV kV doc pm cdv ct oc : Value} {an od : Option Addr}
    {osl : Array (Option Value)} {N ps : List Str} {sp : Sp} (lk : K.lookup f = some ⟨oc, od, .func (PySem.W.fnOf name qual params body scope dV kV doc pm an cdv ct), osl⟩) (hcd : PySem.W.codeIn K cdv qual = true) (S : FnScope N ps scope)
    (len : ∀ vs H Q E, sp vs H Q E → vs.length = ps.length)
    (hbody : ∀ (A : Around) (outer : List Env) (s : Shared) (H : Hp) (vs : List V) (Q : VK) (E : XK), Room k (A.deeper (envOfC qual scope s.heap.objs.size f cdv)) → sp vs H Q E →
      ∃ t, PSs (cxOf CX P w K mg base N qual scope f cdv A outer s H E) body t ∧ t { nx := fun _ H' => Q .non H', rt := Q } (start N vs) H) :
    FnOk P w K mg base CX (k + 1) f (PySem.W.fnOf name qual params body scope dV kV doc pm an cdv ct) ps sp := by
  refine ⟨len, fun A outer s H args us vs Q E hr e0 hb r hsp => ?_⟩
  have hl := len _ _ _ _ hsp
  have KX : K.In s.heap := e0.mod.kin.keeps fun b o e => (e0.bs b o e).1
  have lim : s.heap.NoLimit := e0.mod.nolimit.keeps fun b o e => (e0.bs b o e).1
  have hkind : ∀ y ∈ ps.zip us, scope.names.lookup y.1 = some .local ∨ (scope.names.lookup y.1 = some .cell ∧ ((cellsFrom (s.heap.objs.size + 1) scope.names []).lookup y.1).isSome = true) := fun ⟨n, v⟩ hy => by
    rcases S.par n (List.of_mem_zip hy).1 with q | q
    · exact .inl q
    · exact .inr ⟨q, PySem.W.cellsFrom_some _ _ _ (.inl q)⟩
  refine codeAny_call_function hr.depth (KX _ _ lk) rfl S.co S.gen rfl (PySem.W.codeRec_of KX hcd) (hb _ _ _ _ ?_)
  refine wpAny_newFunctionEnv_cells S.kind hkind fun env he s1 x => ?_
  subst he
  refine ⟨lim.keeps x.toInCall.keep, codeAny_func ?_⟩
  obtain ⟨t, ht, hq⟩ := hbody A outer s H vs Q E (hr.deeper _) hsp
  have I : Inv (cxOf CX P w K mg base N qual scope f cdv A outer s H E) [] (start N vs) H s1 := inv_start S hr.hd e0 hl r x
  refine wpAny_mono (ht [] s1 (start N vs) H _ I hq) (fun fl s' hs => ?_) fun e s' hs => hs
  have fin : ∀ {σ' : St} {H' : Hp} {v : V} {u : Value}, Inv (cxOf CX P w K mg base N qual scope f cdv A outer s H E) [] σ' H' s' → RelV v u → Q v H' → CE outer P w H s Q u s' :=
    fun {σ' H' v u} J rv q => ⟨v, H', J.os, J.bare, J.base, J.hok, rv, q⟩
  cases fl with
  | ret u =>
    obtain ⟨v, σ', H', J, rv, q⟩ := hs
    exact fin J rv q
  | next =>
    obtain ⟨σ', H', J, q⟩ := hs
    exact fin (v := V.non) (u := Value.none) J rfl q
  | brk =>
    obtain ⟨_, _, _, q⟩ := hs
    exact False.elim q
  | cont =>
    obtain ⟨_, _, _, q⟩ := hs
    exact False.elim q
end L2

namespace L2
open PySem PySem.Spec PyProof.Rows
section
variable {X : Cx} {x : Str} {p pos : Pos} {e : Expr} {es : List Expr} {t : TA} {id T : String} {r : List V → Hp → VK → Prop}

def tCB (r : List V → Hp → VK → Prop) (t : TA) : TE := fun σ H Q => t σ H fun vs H1 => r vs H1 Q
/-- f(e, ..), f a built-in function -/
theorem pe_callB (hc : CallR X (.builtin id) r) (hg : Gl X x) (hm : X.mg x = none) (hv : bootBuiltins x = some (.builtin id)) (ha : PA X (e :: es) t) (hn : x ≠ "__name__" := by decide) (hdb : (x == ("__debug__" : Str)) = false := by decide)
    (he : starEach (e :: es) X.env = (false, eval e X.env) :: starEach es X.env := by rfl) (hpl : (backTo pos (starEach es X.env)).any (·.1) = false := by rfl) : PE X (.Call (.Name x p) (e :: es) [] pos) (tCB r t) := by
  intro pins s σ H Q I h
  refine wpAny_Call_Name_kw (ld_blt I hg hm hv ?_ hn hdb)
  exact PyProof.Rows.callWith_builtin1 (thn (ha pos pins s σ H _ I h) fun us s1 ⟨vs, H1, I1, r1, q1⟩ => hc pins s1 σ H1 vs us Q I1 r1 q1) he hpl
/-- T(e, ..), T a built-in type -/
theorem pe_callTy (hc : CallR X (.type T) r) (hg : Gl X x) (hm : X.mg x = none) (hv : bootBuiltins x = some (.type T)) (ha : PA X (e :: es) t) (hn : x ≠ "__name__" := by decide) (hdb : (x == ("__debug__" : Str)) = false := by decide)
    (he : starEach (e :: es) X.env = (false, eval e X.env) :: starEach es X.env := by rfl) (hpl : (backTo pos (starEach es X.env)).any (·.1) = false := by rfl) : PE X (.Call (.Name x p) (e :: es) [] pos) (tCB r t) := by
  intro pins s σ H Q I h
  refine wpAny_Call_Name_kw (ld_blt I hg hm hv ?_ hn hdb)
  exact PyProof.Rows.callWith_type1 (thn (ha pos pins s σ H _ I h) fun us s1 ⟨vs, H1, I1, r1, q1⟩ => hc pins s1 σ H1 vs us Q I1 r1 q1) he hpl
end
end L2

namespace HT
open PySem PyProof.Rows



section
open PySem.SeqAt
open PySem.AutoSeq1 (wpAny_loadPart')
open PySem.MeetsSeq PySem.MeetsSeq2 PySem.MeetsSeq3

end

section
variable {prog : Program} {w : World} {A : Around} {E : Value → Shared → Prop} {s : Shared}


/-- t + u, t not empty -/
theorem cat_tup {t b : Addr} {vs ws : List Value} {Q : Value → Shared → Prop} (ht : IsTup s.heap t vs.toArray) (hb : IsTup s.heap b ws.toArray) (hv : vs ≠ [])
    (h1 : ws = [] → Q (.ref t) s) (h2 : ws ≠ [] → Q (.ref s.heap.objs.size) { s with heap := s.heap.push { cls := .type "tuple", data := .seq (vs ++ ws).toArray } })
    (hsz : vs.length + ws.length ≤ sizeLine) : wpAny (model prog w) A (binaryOp .Add (.ref t) (.ref b)) Q E s := by
  obtain ⟨⟨cls, dd, data, sl⟩, ho, hc, n, hd⟩ := id ht
  obtain ⟨⟨cls2, dd2, data2, sl2⟩, ho2, hc2, n2, hd2⟩ := id hb
  simp only at hc hd hc2 hd2
  subst hc hd hc2 hd2
  have e : vs.toArray ++ ws.toArray = (vs ++ ws).toArray := by simp
  by_cases hw : ws = []
  · exact concat_meets ⟨_, ho, rfl⟩ ⟨_, ho2, rfl⟩ noFill_tuple_add seq_tuple_add PySem.F.slot_tuple_add PySem.F.entry_tuple_add (PySem.F.args_tuple_add_2 _ _)
      (tuple_addW1 t b vs.toArray ws.toArray n n2 dd dd2 sl sl2 (by simpa using hv) (by simp [hw])) ⟨ho, ho2, h1 hw⟩
  · refine concat_meets ⟨_, ho, rfl⟩ ⟨_, ho2, rfl⟩ noFill_tuple_add seq_tuple_add PySem.F.slot_tuple_add PySem.F.entry_tuple_add (PySem.F.args_tuple_add_2 _ _)
      (tuple_addW2 t b vs.toArray ws.toArray n n2 dd dd2 sl sl2 (by simpa using hv) (by simpa using hw) (by rw [List.size_toArray, List.size_toArray]; exact hsz)) ⟨ho, ho2, ?_⟩
    rw [e]
    exact h2 hw

/-! ### t[a:b], not the whole -/
/-- a slice's bound as a place among n (d where it is left out) -/
def sIx (n d : Nat) : Option Int → Nat
  | none => d
  | some v => if v < 0 then (v + (n : Int)).toNat else min v.toNat n
theorem sIx_none (n d : Nat) : sIx n d none = d := rfl
theorem sIx_nat (n d k : Nat) : sIx n d (some (k : Int)) = min k n := by
  show (if (k : Int) < 0 then ((k : Int) + (n : Int)).toNat else min (k : Int).toNat n) = min k n
  rw [if_neg (by omega), Int.toNat_natCast]
theorem sIx_le (n d : Nat) (hd : d ≤ n) (o : Option Int) : sIx n d o ≤ n := by
  cases o with
  | none => exact hd
  | some v =>
    show (if v < 0 then (v + (n : Int)).toNat else min v.toNat n) ≤ n
    by_cases hv : v < 0
    · rw [if_pos hv]; omega
    · rw [if_neg hv]; exact Nat.min_le_right _ _
theorem clip_eq (v : Int) (n d : Nat) : (if v < 0 then max (v + (n : Int)) 0 else min v (n : Int)) = ((sIx n d (some v) : Nat) : Int) := by
  show (if v < 0 then max (v + (n : Int)) 0 else min v (n : Int)) = (((if v < 0 then (v + (n : Int)).toNat else min v.toNat n) : Nat) : Int)
  by_cases hv : v < 0
  · simp only [if_pos hv]; omega
  · simp only [if_neg hv]; omega
theorem adjust_gen (lo hi : Option Int) (n : Nat) : Builtin.Slice.sliceAdjust lo hi 1 (n : Int) = (((sIx n 0 lo : Nat) : Int), ((sIx n n hi : Nat) : Int)) := by
  have h1 : ¬ ((1 : Int) < 0) := by omega
  unfold Builtin.Slice.sliceAdjust
  simp only [h1, if_false]
  refine Prod.ext ?_ ?_
  · cases lo with
    | none => rfl
    | some v => exact clip_eq v n 0
  · cases hi with
    | none => rfl
    | some v => exact clip_eq v n n
theorem places_gen (i j : Nat) : Builtin.Slice.slicePlaces (i : Int) (j : Int) 1 = j - i := by
  unfold Builtin.Slice.slicePlaces
  have h1 : (1 : Int) > 0 := by omega
  simp only [h1, if_true, Int.ediv_one]
  split <;> omega
theorem slicePart_ {v : Value} {o : Option Int} {Q : Option Int → Shared → Prop} (p : IsPart v o) (h : Q o s) : wpAny (model prog w) A (Builtin.Slice.slicePartIndex v) Q E s := by
  cases p with
  | none => exact slicePart_none h
  | int i t => exact slicePart_int h
theorem sliceApplied_gen {sl : Addr} {vl vu : Value} {lo hi : Option Int} {n : Nat} {Q : Int × Int × Nat → Shared → Prop} (hs : s.heap.IsSliceOf sl vl vu .none) (pl : IsPart vl lo) (pu : IsPart vu hi)
    (h : Q (((sIx n 0 lo : Nat) : Int), 1, sIx n n hi - sIx n 0 lo) s) : wpAny (model prog w) A (Builtin.Slice.sliceApplied (.ref sl) (pure (n : Int))) Q E s := by
  obtain ⟨os, hos, hcs, hds⟩ := id hs
  unfold Builtin.Slice.sliceApplied Builtin.Slice.sliceFields
  refine wpAny_bind (wpAny_bind (wpAny_field hos hds (x := vl) rfl (wpAny_bind (wpAny_field hos hds (x := vu) rfl (wpAny_bind (wpAny_field hos hds (x := .none) rfl (wpAny_pure ?_)))))))
  refine wpAny_bind (slicePart_none ?_)
  show wpAny _ _ (if ((1 : Int) == 0) = true then _ else _) _ _ s
  rw [if_neg (by decide)]
  refine wpAny_bind (slicePart_ pl (wpAny_bind (slicePart_ pu (wpAny_bind (wpAny_pure ?_)))))
  show wpAny _ _ (match Builtin.Slice.sliceAdjust lo hi 1 (n : Int) with | (lo, hi) => pure (lo, (1 : Int), Builtin.Slice.slicePlaces lo hi 1)) _ _ s
  rw [adjust_gen lo hi n]
  show wpAny _ _ (pure (((sIx n 0 lo : Nat) : Int), (1 : Int), Builtin.Slice.slicePlaces ((sIx n 0 lo : Nat) : Int) ((sIx n n hi : Nat) : Int) 1)) _ _ s
  rw [places_gen]
  exact wpAny_pure h
theorem pick_gen (xs : Array Value) (i k : Nat) : ((List.range k).filterMap fun (m : Nat) => xs[((i : Int) + (m : Int) * 1).toNat]?).toArray = ((xs.toList.drop i).take k).toArray := by
  have e : (fun (m : Nat) => xs[((i : Int) + (m : Int) * 1).toNat]?) = fun m => xs[i + m]? := by
    funext m
    have : ((i : Int) + (m : Int) * 1).toNat = i + m := by omega
    rw [this]
  rw [e]
  have := pick_run xs i k
  rw [List.filterMap_map] at this
  have e2 : ((fun x => xs[x]?) ∘ fun x => i + x) = fun m => xs[i + m]? := rfl
  rw [e2] at this
  rw [this]

theorem getItem_tuple_cut {t sl : Addr} {items : Array Value} {vl vu : Value} {lo hi : Option Int} {Q : Value → Shared → Prop} (ht : IsTup s.heap t items) (hs : s.heap.IsSliceOf sl vl vu .none) (pl : IsPart vl lo) (pu : IsPart vu hi)
    (hw : ¬ (sIx items.size 0 lo = 0 ∧ sIx items.size items.size hi = items.size))
    (h : Q (.ref s.heap.objs.size) { s with heap := s.heap.push { cls := .type "tuple", data := .seq ((items.toList.drop (sIx items.size 0 lo)).take (sIx items.size items.size hi - sIx items.size 0 lo)).toArray } })
    (hsz : items.size ≤ sizeLine) : wpAny (model prog w) A (getItem (.ref t) (.ref sl)) Q E s := by
  have htake : sizeOk (.seq ((items.toList.drop (sIx items.size 0 lo)).take (sIx items.size items.size hi - sIx items.size 0 lo)).toArray) := by
    show ((items.toList.drop (sIx items.size 0 lo)).take (sIx items.size items.size hi - sIx items.size 0 lo)).toArray.size ≤ sizeLine
    rw [List.size_toArray, List.length_take, List.length_drop, Array.length_toList]
    omega
  have hj : sIx items.size items.size hi ≤ items.size := sIx_le _ _ (Nat.le_refl _) hi
  obtain ⟨os, hos, hcs, hds⟩ := id hs
  have hTs : s.TypeIs (.ref sl) "slice" := ⟨os, hos, hcs⟩
  unfold getItem
  try with_reducible refine wpAny_holding ?_
  first | refine wpAny_bind (wpAny_pure ?_) | skip
  refine wpAny_bind (wpAny_sequenceKey ht.typeIs (by decide) ?_)
  refine wpAny_bind (wpAny_callSpecial?_slot (name := Str.ofString "__getitem__") ht.typeIs PyProof.Rows.slot_tuple_getitem
    (wpAny_call_entry PyProof.Rows.slot_tuple_getitem ht.typeIs entry_tuple_getitem ?_ (args_tuple_getitem _ _)))
  show wpAny _ _ (Builtin.Tuple.tupleItemsOf (.ref t) >>= _) _ _ s
  refine wpAny_bind (tupleItemsOf_ ht ?_)
  refine wpAny_bind (wpAny_typeOf hTs ?_)
  rw [if_pos (by decide)]
  refine wpAny_bind (sliceApplied_gen hs pl pu ?_)
  have hno : ¬ ((((sIx items.size 0 lo : Nat) : Int) == 0 && (1 : Int) == 1 && (sIx items.size items.size hi - sIx items.size 0 lo) == items.size) = true) := by
    intro q
    rw [Bool.and_eq_true, Bool.and_eq_true] at q
    have q1 : ((sIx items.size 0 lo : Nat) : Int) = 0 := eq_of_beq q.1.1
    have q2 : sIx items.size items.size hi - sIx items.size 0 lo = items.size := eq_of_beq q.2
    exact hw ⟨by omega, by omega⟩
  show wpAny _ _ (if (((sIx items.size 0 lo : Nat) : Int) == 0 && (1 : Int) == 1 && (sIx items.size items.size hi - sIx items.size 0 lo) == items.size) = true then _ else _) _ _ s
  rw [if_neg hno, pick_gen]
  first
    | exact wpAny_bind (m := Builtin.Tuple.tupleExact _) (wpAny_newObj_type (wpAny_pure ⟨_, rfl, wpAny_pure h⟩) htake)
    | exact wpAny_bind (m := Builtin.Tuple.tupleExact _) (wpAny_newObj_type (wpAny_bind (wpAny_pure (wpAny_pure ⟨_, rfl, wpAny_pure h⟩))) htake)
    | exact wpAny_bind (wpAny_bind (m := Builtin.Tuple.tupleExact _) (wpAny_newObj_type (wpAny_pure (wpAny_pure ⟨_, rfl, wpAny_pure h⟩)) htake))
    | exact wpAny_bind (wpAny_bind (m := Builtin.Tuple.tupleExact _) (wpAny_newObj_type (wpAny_pure ⟨_, rfl, wpAny_pure h⟩) htake))
end
end HT

namespace L2
open PySem PySem.Spec PyProof.Rows

/-! ### the parts of a slice -/
abbrev TO := St → Hp → (Option Int → Hp → Prop) → Prop
/-- a slice's part (left out, or an int) -/
def PO (X : Cx) (e : Option Expr) (t : TO) : Prop :=
  ∀ (pins : List (Addr × Obj)) (s : Shared) (σ : St) (H : Hp) (Q : Option Int → Hp → Prop), Inv X pins σ H s → t σ H Q →
    wpAny (model X.prog X.w) X.A (evalPart e X.env) (fun u s' => ∃ o H', Inv X pins σ H' s' ∧ IsPart u o ∧ Q o H') X.xe s
def tNoPart : TO := fun _ H Q => Q none H
def tPart (t : TE) : TO := fun σ H Q => t σ H fun x H1 => ∃ i, x = .int i ∧ Q (some i) H1

theorem intsAre_of {ns : List Int} : ∀ {us : List Value}, Vals (ns.map V.int) us → IntsAre us ns := by
  induction ns with
  | nil => intro us r; rw [List.map_nil] at r; cases r; exact .nil
  | cons n ns ih =>
    intro us r
    rw [List.map_cons] at r
    cases r with
    | cons r1 r2 =>
      obtain ⟨t, e⟩ := r1
      subst e
      exact .cons n t (ih r2)

section
variable {X : Cx} {e : Expr} {te : TE} {lo hi : Option Expr} {tl th : TO} {pos p2 : Pos}

theorem po_none : PO X none tNoPart := by
  intro pins s σ H Q I h
  rw [evalPart_none]
  exact wpAny_pure ⟨none, H, I, .none, h⟩
theorem po_some (h : PE X e te) : PO X (some e) (tPart te) := by
  intro pins s σ H Q I hw
  rw [evalPart_some]
  refine thn (h pins s σ H _ I hw) fun u s1 ⟨x, H1, I1, r1, q1⟩ => ?_
  obtain ⟨i, rfl, q⟩ := q1
  obtain ⟨t, rfl⟩ := r1
  exact ⟨some i, H1, I1, .int i t, q⟩

/-- what a slice of a value is, by values: the slice object stands at sl -/
def SlR (X : Cx) (r : V → Option Int → Option Int → Hp → VK → Prop) : Prop :=
  ∀ (pins : List (Addr × Obj)) (s : Shared) (σ : St) (H : Hp) (x : V) (v vl vu : Value) (lo hi : Option Int) (sl : Addr) (Q : VK), Inv X pins σ H s → RelV x v → s.heap.IsSliceOf sl vl vu .none → IsPart vl lo → IsPart vu hi → r x lo hi H Q →
    ∃ T id, typeLookup (.type T) "__getitem__" = pure (some (.builtin id)) ∧ s.TypeIs v T ∧ wpAny (model X.prog X.w) X.A (getItem v (.ref sl)) (EP X pins σ Q) X.xe s
theorem SlR.or {r r' : V → Option Int → Option Int → Hp → VK → Prop} (h : SlR X r) (h' : SlR X r') : SlR X (fun x lo hi H Q => r x lo hi H Q ∨ r' x lo hi H Q) := by
  intro pins s σ H x v vl vu lo hi sl Q I rx hs pl pu q
  rcases q with q | q
  · exact h pins s σ H x v vl vu lo hi sl Q I rx hs pl pu q
  · exact h' pins s σ H x v vl vu lo hi sl Q I rx hs pl pu q
def tSl (r : V → Option Int → Option Int → Hp → VK → Prop) (te : TE) (tl th : TO) : TE := fun σ H Q => te σ H fun x H1 => tl σ H1 fun l H2 => th σ H2 fun u H3 => r x l u H3 Q
/-- a[lo:hi], any a -/
theorem pe_slice {r : V → Option Int → Option Int → Hp → VK → Prop} (hr : SlR X r) (he : PE X e te) (hl : PO X lo tl) (hu : PO X hi th) : PE X (.Subscript e (.Slice lo hi none p2) pos) (tSl r te tl th) := by
  intro pins s σ H Q I h
  refine Subscript_ (thn (he pins s σ H _ I h) fun v s1 ⟨x, H1, I1, r1, q1⟩ => ?_)
  refine wpAny_Slice (thn (hl pins s1 σ H1 _ I1 q1) fun vl s2 ⟨l, H2, I2, pl, q2⟩ => thn (hu pins s2 σ H2 _ I2 q2) fun vu s3 ⟨u, H3, I3, pu, q3⟩ => ?_)
  rw [evalPart_none]
  refine wpAny_pure ?_
  have I4 : Inv X pins σ H3 { s3 with heap := s3.heap.push { cls := .type "slice", data := .fields #[vl, vu, .none] } } := I3.kept (t' := s3.toks) fun b ob q => Heap.get?_push_of_some _ q
  obtain ⟨T, id, hT, ht, hg⟩ := hr pins { s3 with heap := s3.heap.push { cls := .type "slice", data := .fields #[vl, vu, .none] } } σ H3 x v vl vu l u s3.heap.objs.size Q I4 r1 (Heap.IsSliceOf.new ..) pl pu q3
  show wpAny (model X.prog X.w) X.A (subscriptTail e (.Slice lo hi none p2) v (.ref s3.heap.objs.size)) (EP X pins σ Q) X.xe { s3 with heap := s3.heap.push { cls := .type "slice", data := .fields #[vl, vu, .none] } }
  exact tail_any (ops := [.ref s3.heap.objs.size, v]) ht hT hg (by with_unfolding_all rfl)

/-- the items of xs[lo:hi] -/
def cutV (xs : List V) (lo hi : Option Int) : List V := (xs.drop (HT.sIx xs.length 0 lo)).take (HT.sIx xs.length xs.length hi - HT.sIx xs.length 0 lo)
theorem cutV_length (xs : List V) (lo hi : Option Int) : (cutV xs lo hi).length ≤ xs.length := by
  unfold cutV
  rw [List.length_take, List.length_drop]
  omega
/-- t[lo:hi], not the whole of it (the whole would be t itself) -/
def rSlT (K : PySem.W.Frag) : V → Option Int → Option Int → Hp → VK → Prop := fun x lo hi H Q => ∃ a xs, x = .ref a ∧ SqT K H a xs ∧
  ¬ (HT.sIx xs.length 0 lo = 0 ∧ HT.sIx xs.length xs.length hi = xs.length) ∧ ∀ p, H p = none → Q (.ref p) (upd H p (.tup (cutV xs lo hi)))
theorem sl_tup : SlR X (rSlT X.K) := by
  intro pins s σ H x v vl vu lo hi sl Q I rx hs pl pu h
  obtain ⟨a, xs, rfl, hx, hw, q⟩ := h
  cases rx
  obtain ⟨its, r, ht, hz⟩ := I.tuple hx
  have hlen : its.toArray.size = xs.length := by rw [List.size_toArray]; exact r.length.symm
  refine ⟨"tuple", _, PyProof.Rows.slot_tuple_getitem.lookup, ht.typeIs, ?_⟩
  refine HT.getItem_tuple_cut ht hs pl pu (by rw [hlen]; exact hw) ?_ (by rw [hlen]; exact hz)
  rw [hlen]
  refine ⟨.ref s.heap.objs.size, _, I.laid (t' := s.toks) (o := .tup (cutV xs lo hi)) (fun b ob q => Heap.get?_push_of_some _ q) (Nat.le_refl _) ?_, rfl, q _ (I.hok.fresh (Nat.le_refl _))⟩
  exact ⟨Nat.le_trans (cutV_length xs lo hi) hz, _, (r.drop (HT.sIx xs.length 0 lo)).take (HT.sIx xs.length xs.length hi - HT.sIx xs.length 0 lo), IsTup.new _ _⟩

/-! ### t < u, t + u -/
/-- t + u, t not empty: u empty gives t itself -/
def rCatT (K : PySem.W.Frag) : R2 := fun x y H Q => ∃ a b xs ys, x = .ref a ∧ y = .ref b ∧ SqT K H a xs ∧ SqT K H b ys ∧ xs ≠ [] ∧ xs.length + ys.length ≤ sizeLine ∧
  (ys = [] → Q (.ref a) H) ∧ (ys ≠ [] → ∀ p, H p = none → Q (.ref p) (upd H p (.tup (xs ++ ys))))
theorem Vals.nil_iff {xs : List V} {us : List Value} (r : Vals xs us) : us = [] ↔ xs = [] := by
  cases r with
  | nil => simp
  | cons _ _ => simp
theorem op_catT : OpR X (binaryOp .Add) (rCatT X.K) := by
  intro pins s σ H x y v u Q I rx ry h
  obtain ⟨a, b, xs, ys, rfl, rfl, ha, hb, hx, hz, q1, q2⟩ := h
  cases rx
  cases ry
  obtain ⟨its, r1, p1, _⟩ := I.tuple ha
  obtain ⟨its2, r2, p2, _⟩ := I.tuple hb
  refine HT.cat_tup p1 p2 (fun z => hx (r1.nil_iff.mp z)) (fun z => ⟨.ref a, H, I, rfl, q1 (r2.nil_iff.mp z)⟩) (fun z => ?_) (by rw [← r1.length, ← r2.length]; exact hz)
  refine ⟨.ref s.heap.objs.size, _, I.laid (t' := s.toks) (o := .tup (xs ++ ys)) (fun b ob q => Heap.get?_push_of_some _ q) (Nat.le_refl _) ?_, rfl, q2 (fun w => z (r2.nil_iff.mpr w)) _ (I.hok.fresh (Nat.le_refl _))⟩
  exact ⟨by rw [List.length_append]; exact hz, _, r1.append r2, IsTup.new _ _⟩
end
end L2

namespace L2
open PySem PySem.Spec PyProof.Rows

/-! ### places -/
/-- the place that an index of any sign means -/
def ixN (n : Nat) (i : Int) : Option Nat := if 0 ≤ i then (if i < n then some i.toNat else none) else if -(n : Int) ≤ i then some (i + n).toNat else none
def atI {α : Type} (xs : List α) (i : Int) : Option α := (ixN xs.length i).bind fun j => xs[j]?
theorem ixN_seq {n : Nat} {i : Int} {j : Nat} (h : ixN n i = some j) : seqIndex? i n = some j ∧ j < n ∧ -(n : Int) ≤ i ∧ i < n := by
  unfold ixN at h
  by_cases h0 : 0 ≤ i
  · rw [if_pos h0] at h
    by_cases h1 : i < n
    · rw [if_pos h1] at h
      have e : i.toNat = j := Option.some.inj h
      exact ⟨by rw [seqIndex_of h0 h1, e], by omega, by omega, h1⟩
    · rw [if_neg h1] at h; cases h
  · rw [if_neg h0] at h
    by_cases h1 : -(n : Int) ≤ i
    · rw [if_pos h1] at h
      have e : (i + n).toNat = j := Option.some.inj h
      exact ⟨by rw [seqIndex_neg (by omega) h1, e], by omega, h1, by omega⟩
    · rw [if_neg h1] at h; cases h
theorem atI_get {α : Type} {xs : List α} {i : Int} {v : α} (h : atI xs i = some v) : ∃ j, seqIndex? i xs.length = some j ∧ xs[j]? = some v ∧ j < xs.length ∧ -(xs.length : Int) ≤ i ∧ i < xs.length := by
  unfold atI at h
  cases e : ixN xs.length i with
  | none => rw [e] at h; cases h
  | some j =>
    rw [e] at h
    obtain ⟨h1, h2, h3, h4⟩ := ixN_seq e
    exact ⟨j, h1, h, h2, h3, h4⟩
theorem atI_nat {α : Type} {xs : List α} {j : Nat} {v : α} (h : xs[j]? = some v) : atI xs (j : Int) = some v := by
  have hj : j < xs.length := (List.getElem?_eq_some_iff.mp h).1
  have e : ixN xs.length (j : Int) = some j := by
    unfold ixN
    rw [if_pos (by omega), if_pos (by omega)]; simp
  unfold atI; rw [e]; exact h

/-! ### what may be subscripted -/
/-- what stands as an index of a plain subscript -/
def PlainIx (b : Expr) : Prop := ∀ o i, subscripted b false o i = operate [o, i] (getItem o i)
/-- a subscript by values -/
def IxR (X : Cx) (r : R2) : Prop :=
  ∀ (value slice : Expr) (pins : List (Addr × Obj)) (s : Shared) (σ : St) (H : Hp) (x y : V) (v u : Value) (Q : VK), Inv X pins σ H s → RelV x v → RelV y u → r x y H Q →
    subscripted slice false v u = operate [v, u] (getItem v u) → wpAny (model X.prog X.w) X.A (subscriptTail value slice v u) (EP X pins σ Q) X.xe s
/-- a call of a builtin's method by values: the receiver, the arguments -/
def MtR (X : Cx) (id : String) (r : V → List V → Hp → VK → Prop) : Prop :=
  ∀ (pins : List (Addr × Obj)) (s : Shared) (σ : St) (H : Hp) (x : V) (xs : List V) (v : Value) (us : List Value) (Q : VK), Inv X pins σ H s → RelV x v → Vals xs us → r x xs H Q →
    wpAny (model X.prog X.w) X.A (call (.builtin id) (v :: us)) (EP X pins σ Q) X.xe s
section
variable {X : Cx} {a b : Expr} {ta tb : TE} {pos : Pos}
theorem IxR.or {r r' : R2} (h : IxR X r) (h' : IxR X r') : IxR X (fun x y H Q => r x y H Q ∨ r' x y H Q) := by
  intro value slice pins s σ H x y v u Q I rx ry q hs
  rcases q with q | q
  · exact h value slice pins s σ H x y v u Q I rx ry q hs
  · exact h' value slice pins s σ H x y v u Q I rx ry q hs
theorem MtR.or {id : String} {r r' : V → List V → Hp → VK → Prop} (h : MtR X id r) (h' : MtR X id r') : MtR X id (fun x xs H Q => r x xs H Q ∨ r' x xs H Q) := by
  intro pins s σ H x xs v us Q I rx rs q
  rcases q with q | q
  · exact h pins s σ H x xs v us Q I rx rs q
  · exact h' pins s σ H x xs v us Q I rx rs q
/-- a[b] -/
theorem pe_ix {r : R2} (hr : IxR X r) (ha : PE X a ta) (hb : PE X b tb) (hs : PlainIx b) : PE X (.Subscript a b pos) (tOp r ta tb) := by
  intro pins s σ H Q I h
  exact Subscript_ (binT ha hb I h fun v u s2 x y H2 I2 rx ry q => hr a b pins s2 σ H2 x y v u Q I2 rx ry q (hs _ _))

def rIxL (K : PySem.W.Frag) : R2 := fun x y H Q => ∃ p xs i v, x = .ref p ∧ y = .int i ∧ SqL K H p xs ∧ atI xs i = some v ∧ Q v H
def rIxT (K : PySem.W.Frag) : R2 := fun x y H Q => ∃ p xs i v, x = .ref p ∧ y = .int i ∧ SqT K H p xs ∧ atI xs i = some v ∧ Q v H
def rIxS : R2 := fun x y H Q => ∃ z i c, x = .str z ∧ y = .int i ∧ z.length ≤ sizeLine ∧ atI z.cps.toList i = some c ∧ Q (.str ⟨#[c]⟩) H
theorem ix_list : IxR X (rIxL X.K) := by
  intro value slice pins s σ H x y v u Q I rx ry h hs
  obtain ⟨p, xs, i, z, rfl, rfl, hq, he, q⟩ := h
  cases rx
  obtain ⟨t, rfl⟩ := ry
  obtain ⟨its, r, pl, hz⟩ := I.list hq
  obtain ⟨j, h1, h2, h3, h4, h5⟩ := atI_get he
  obtain ⟨w, ew, rw'⟩ := r.get h2
  have hl := r.length
  have hn := line63
  have fin : EP X pins σ Q w s := ⟨z, H, I, rw', q⟩
  by_cases h0 : 0 ≤ i
  · have hj : i.toNat = j := by
      rw [seqIndex_of h0 h5] at h1
      exact Option.some.inj h1
    exact item_listR pl.isList h0 (by omega) (by rw [hj]; simpa using ew) fin hs
  · have hj : (i + (its.toArray.size : Int)).toNat = j := by
      rw [seqIndex_neg (by omega) h4] at h1
      rw [List.size_toArray, ← hl]
      exact Option.some.inj h1
    exact subscriptTail_builtinR (x := w) pl.isList.typeIs slot_list_getitem.lookup
      (wpAny_getItem_list_neg (Q := fun r s' => r = w ∧ EP X pins σ Q r s') pl.isList (by omega) (by rw [List.size_toArray] <;> omega) (by omega) (by rw [hj]; simpa using ew) ⟨rfl, fin⟩) hs
theorem ix_tup : IxR X (rIxT X.K) := by
  intro value slice pins s σ H x y v u Q I rx ry h hs
  obtain ⟨p, xs, i, z, rfl, rfl, hq, he, q⟩ := h
  cases rx
  obtain ⟨t, rfl⟩ := ry
  obtain ⟨its, r, pl, hz⟩ := I.tuple hq
  obtain ⟨j, h1, h2, h3, h4, h5⟩ := atI_get he
  obtain ⟨w, ew, rw'⟩ := r.get h2
  have hl := r.length
  have hn := line63
  have fin : EP X pins σ Q w s := ⟨z, H, I, rw', q⟩
  exact subscriptTail_builtinR (x := w) pl.typeIs slot_tuple_getitem.lookup
    (getItem_tuple (j := j) (Q := fun r s' => r = w ∧ EP X pins σ Q r s') pl (by omega) (by omega) (by rw [List.size_toArray, ← hl]; exact h1) (by simpa using ew) ⟨rfl, fin⟩) hs
theorem ix_str : IxR X rIxS := by
  intro value slice pins s σ H x y v u Q I rx ry h hs
  obtain ⟨z, i, c, rfl, rfl, hz, he, q⟩ := h
  obtain ⟨t, rfl⟩ := rx
  obtain ⟨t', rfl⟩ := ry
  obtain ⟨j, h1, h2, h3, h4, h5⟩ := atI_get he
  have hl : z.cps.toList.length = z.length := by simp [Str.length]
  rw [hl] at h1 h4 h5
  have hn := line63
  exact tail_any (typeIs_str s z t) slot_str_getitem.lookup (getItem_str (c := c) (by
    have e1 : decide (i < -(2 ^ 63 : Int)) = false := decide_eq_false (by omega)
    have e2 : decide (i ≥ 2 ^ 63) = false := decide_eq_false (by omega)
    rw [e1, e2, Bool.or_false]) (by rw [h1]; simpa using h2) ⟨.str ⟨#[c]⟩, H, I.tok _, ⟨_, rfl⟩, q⟩) hs

/-! ### xs[i] = v, any sign -/
theorem Inv.lst {pins : List (Addr × Obj)} {σ : St} {H : Hp} {s : Shared} {p : Addr} {xs : List V} (I : Inv X pins σ H s) (h : H p = some (.lst xs)) :
    ∃ (its : List Value) (n : Nat), Vals xs its ∧ s.heap.get? p = some { cls := .type "list", data := .seq its.toArray n } ∧ xs.length ≤ sizeLine := by
  obtain ⟨z, its, n, r, e⟩ := I.hok p _ h
  exact ⟨its, n, r, e, z⟩

/-! ### slices -/
theorem slice_bounds (lo hi : Option Int) (n : Nat) : (sliceBounds lo hi none n).1 = ((HT.sIx n 0 lo : Nat) : Int) ∧ (sliceBounds lo hi none n).2.1 = ((HT.sIx n n hi : Nat) : Int) ∧ (sliceBounds lo hi none n).2.2 = 1 := by
  refine ⟨?_, ?_, rfl⟩
  · cases lo with
    | none => simp [sliceBounds, HT.sIx]
    | some i =>
      simp only [sliceBounds, HT.sIx, Option.getD_none, show (1 : Int) > 0 by decide, if_true]
      by_cases h : i < 0
      · simp only [h, if_true] <;> omega
      · simp only [h, if_false] <;> omega
  · cases hi with
    | none => simp [sliceBounds, HT.sIx]
    | some i =>
      simp only [sliceBounds, HT.sIx, Option.getD_none, show (1 : Int) > 0 by decide, if_true]
      by_cases h : i < 0
      · simp only [h, if_true] <;> omega
      · simp only [h, if_false] <;> omega
theorem slicePick_cut (its : List Value) (lo hi : Option Int) : slicePick its.toArray lo hi none = ((its.drop (HT.sIx its.length 0 lo)).take (HT.sIx its.length its.length hi - HT.sIx its.length 0 lo)).toArray := by
  obtain ⟨h1, h2, h3⟩ := slice_bounds lo hi its.toArray.size
  unfold slicePick
  rw [h1, h2, h3]
  simp only [sliceRange_one, pick_run, List.size_toArray] <;> rfl
/-- xs[lo:hi] of a list: a new list -/
def rSlL (K : PySem.W.Frag) : V → Option Int → Option Int → Hp → VK → Prop := fun x lo hi H Q => ∃ a xs, x = .ref a ∧ SqL K H a xs ∧ ∀ p, H p = none → Q (.ref p) (upd H p (.lst (cutV xs lo hi)))
theorem sl_list : SlR X (rSlL X.K) := by
  intro pins s σ H x v vl vu lo hi sl Q I rx hs pl pu h
  obtain ⟨a, xs, rfl, hx, q⟩ := h
  cases rx
  obtain ⟨its, r, ht, hz⟩ := I.list hx
  have hlen := r.length
  refine ⟨"list", _, slot_list_getitem.lookup, ht.isList.typeIs, ?_⟩
  refine wpAny_getItem_list_slice ht.isList hs pl pu .none (by simp) ?_ (by rw [List.size_toArray] <;> omega)
  rw [slicePick_cut, ← hlen]
  refine ⟨.ref s.heap.objs.size, _, I.laid (t' := s.toks) (o := .lst (cutV xs lo hi)) (fun b ob q => Heap.get?_push_of_some _ q) (Nat.le_refl _) ?_, rfl, q _ (I.hok.fresh (Nat.le_refl _))⟩
  exact ⟨Nat.le_trans (cutV_length xs lo hi) hz, _, 0, (r.drop (HT.sIx xs.length 0 lo)).take (HT.sIx xs.length xs.length hi - HT.sIx xs.length 0 lo), Heap.get?_push_size _ rfl⟩

/-! ### in, not in: flat items -/
def flatV : V → Bool
  | .non => true
  | .bl _ => true
  | .int _ => true
  | .str _ => true
  | _ => false
/-- == of flat values -/
def eqV : V → V → Bool
  | .non, .non => true
  | .bl a, .bl b => a == b
  | .bl a, .int b => (if a then 1 else 0) == b
  | .int a, .bl b => a == (if b then 1 else 0)
  | .int a, .int b => a == b
  | .str a, .str b => a == b
  | _, _ => false
theorem eqAt_V {A : Around} {s : Shared} {y x : V} {u v : Value} (ry : RelV y u) (rx : RelV x v) (fy : flatV y = true) (fx : flatV x = true) : SeqAt.EqAt A s u v (eqV y x) := by
  cases y with
  | non =>
    cases ry
    cases x with
    | non => cases rx; exact SeqAt.EqAt.same _
    | bl b => cases rx; exact SeqAt.EqAt.none_bool b
    | int b => obtain ⟨t, rfl⟩ := rx; exact SeqAt.EqAt.none_int b t
    | str b => obtain ⟨t, rfl⟩ := rx; exact SeqAt.EqAt.none_str b t
    | _ => exact absurd (show false = true from fx) Bool.false_ne_true
  | bl a =>
    cases ry
    cases x with
    | non => cases rx; exact SeqAt.EqAt.bool_none a
    | bl b => cases rx; exact SeqAt.EqAt.bool_bool a b
    | int b => obtain ⟨t, rfl⟩ := rx; exact SeqAt.EqAt.bool_int a b t
    | str b => obtain ⟨t, rfl⟩ := rx; exact SeqAt.EqAt.bool_str a b t
    | _ => exact absurd (show false = true from fx) Bool.false_ne_true
  | int a =>
    obtain ⟨t', rfl⟩ := ry
    cases x with
    | non => cases rx; exact SeqAt.EqAt.int_none a t'
    | bl b => cases rx; exact SeqAt.EqAt.int_bool a t' b
    | int b => obtain ⟨t, rfl⟩ := rx; exact SeqAt.EqAt.int_int a t' b t
    | str b => obtain ⟨t, rfl⟩ := rx; exact SeqAt.EqAt.int_str a t' b t
    | _ => exact absurd (show false = true from fx) Bool.false_ne_true
  | str a =>
    obtain ⟨t', rfl⟩ := ry
    cases x with
    | non => cases rx; exact SeqAt.EqAt.str_none a t'
    | bl b => cases rx; exact SeqAt.EqAt.str_bool a t' b
    | int b => obtain ⟨t, rfl⟩ := rx; exact SeqAt.EqAt.str_int a t' b t
    | str b => obtain ⟨t, rfl⟩ := rx; exact SeqAt.EqAt.str_str a t' b t
    | _ => exact absurd (show false = true from fx) Bool.false_ne_true
  | _ => exact absurd (show false = true from fy) Bool.false_ne_true
/-- the items' answers, read off the values (a value's own answer does not lean on its token) -/
def eqU (x : V) (u : Value) : Bool := match u with
  | .none => eqV .non x
  | .bool b => eqV (.bl b) x
  | .int i _ => eqV (.int i) x
  | .str z _ => eqV (.str z) x
  | _ => false
theorem eqU_of {x y : V} {u : Value} (r : RelV y u) (f : flatV y = true) : eqU x u = eqV y x := by
  cases y with
  | non => cases r; rfl
  | bl b => cases r; rfl
  | int i => obtain ⟨t, rfl⟩ := r; rfl
  | str z => obtain ⟨t, rfl⟩ := r; rfl
  | _ => exact absurd (show false = true from f) Bool.false_ne_true
theorem any_eqU {x : V} : ∀ {xs : List V} {us : List Value}, Vals xs us → xs.all flatV = true → us.any (eqU x) = xs.any fun y => eqV y x
  | _, _, .nil, _ => rfl
  | y :: xs, u :: us, .cons r t, f => by
    rw [List.all_cons, Bool.and_eq_true] at f
    rw [List.any_cons, List.any_cons, eqU_of r f.1, any_eqU t f.2]
theorem mem_eqAt {A : Around} {s : Shared} {x : V} {v : Value} (rx : RelV x v) (fx : flatV x = true) : ∀ {xs : List V} {us : List Value}, Vals xs us → xs.all flatV = true → ∀ u ∈ us, SeqAt.EqAt A s u v (eqU x u)
  | _, _, .nil, _ => fun u hu => by cases hu
  | y :: xs, u :: us, .cons r t, f => fun u' hu => by
    rw [List.all_cons, Bool.and_eq_true] at f
    rcases List.mem_cons.mp hu with rfl | hu
    · rw [eqU_of r f.1]; exact eqAt_V r rx f.1 fx
    · exact mem_eqAt rx fx t f.2 u' hu
def inV (x : V) (xs : List V) : Bool := xs.any fun y => eqV y x
/-- x in a list or tuple of flat items -/
def rIn (K : PySem.W.Frag) (neg : Bool) : R2 := fun x y H Q => ∃ p xs, y = .ref p ∧ (SqL K H p xs ∨ SqT K H p xs) ∧ flatV x = true ∧ xs.all flatV = true ∧ Q (.bl (if neg then !inV x xs else inV x xs)) H
theorem op_in_seq : OpR X (compareOp .In) (rIn X.K false) := by
  intro pins s σ H x y v u Q I rx ry h
  obtain ⟨p, xs, rfl, hq, fx, fs, q⟩ := h
  cases ry
  rcases hq with hq | hq
  · obtain ⟨its, r, pl, hz⟩ := I.list hq
    refine SeqAt.in_listAt (eqU x) pl.isList (fun w hw => mem_eqAt rx fx r fs w (by simpa using hw)) ⟨.bl _, H, I, rfl, ?_⟩
    rw [show its.toArray.any (eqU x) = its.any (eqU x) by simp, any_eqU r fs]
    exact q
  · obtain ⟨its, r, pl, hz⟩ := I.tuple hq
    refine SeqAt.in_tupleAt (eqU x) pl (fun w hw => mem_eqAt rx fx r fs w (by simpa using hw)) ⟨.bl _, H, I, rfl, ?_⟩
    rw [show its.toArray.any (eqU x) = its.any (eqU x) by simp, any_eqU r fs]
    exact q
theorem op_notIn_seq : OpR X (compareOp .NotIn) (rIn X.K true) := by
  intro pins s σ H x y v u Q I rx ry h
  obtain ⟨p, xs, rfl, hq, fx, fs, q⟩ := h
  cases ry
  rcases hq with hq | hq
  · obtain ⟨its, r, pl, hz⟩ := I.list hq
    refine SeqAt.notIn_listAt (eqU x) pl.isList (fun w hw => mem_eqAt rx fx r fs w (by simpa using hw)) ⟨.bl _, H, I, rfl, ?_⟩
    rw [show its.toArray.any (eqU x) = its.any (eqU x) by simp, any_eqU r fs]
    exact q
  · obtain ⟨its, r, pl, hz⟩ := I.tuple hq
    refine SeqAt.notIn_tupleAt (eqU x) pl (fun w hw => mem_eqAt rx fx r fs w (by simpa using hw)) ⟨.bl _, H, I, rfl, ?_⟩
    rw [show its.toArray.any (eqU x) = its.any (eqU x) by simp, any_eqU r fs]
    exact q

/-! ### len, list(x), tuple(x) of any list or tuple that is read -/
theorem call_len_seq : CallR X (.builtin "len") (fun xs H Q => ∃ p ys, xs = [.ref p] ∧ (SqL X.K H p ys ∨ SqT X.K H p ys) ∧ Q (.int ys.length) H) := by
  intro pins s σ H xs us Q I r h
  obtain ⟨p, ys, rfl, hq, q⟩ := h
  obtain ⟨u, rfl, rx⟩ := vals1 r
  cases rx
  have hn := line63
  rcases hq with hq | hq
  · obtain ⟨its, r', pl, hz⟩ := I.list hq
    have hlen := r'.length
    exact Calls.call_len_list pl.isList (by simp only [List.size_toArray] <;> omega) ⟨.int ys.length, H, I.tok _, ⟨s.toks + 1, by rw [List.size_toArray, hlen]⟩, q⟩
  · obtain ⟨its, r', pl, hz⟩ := I.tuple hq
    have hlen := r'.length
    exact len_tuple pl (by simp only [List.size_toArray] <;> omega) ⟨.int ys.length, H, I.tok _, ⟨s.toks + 1, by rw [List.size_toArray, hlen]⟩, q⟩
theorem call_len_str : CallR X (.builtin "len") (fun xs H Q => ∃ z, xs = [.str z] ∧ z.length ≤ sizeLine ∧ Q (.int z.length) H) := by
  intro pins s σ H xs us Q I r h
  obtain ⟨z, rfl, hz, q⟩ := h
  obtain ⟨u, rfl, t, rfl⟩ := vals1 r
  have hn := line63
  exact len_str (by omega) ⟨.int z.length, H, I.tok _, ⟨_, rfl⟩, q⟩
theorem CallR.or {f : Value} {r r' : List V → Hp → VK → Prop} (h : CallR X f r) (h' : CallR X f r') : CallR X f (fun xs H Q => r xs H Q ∨ r' xs H Q) := by
  intro pins s σ H xs us Q I rs q
  rcases q with q | q
  · exact h pins s σ H xs us Q I rs q
  · exact h' pins s σ H xs us Q I rs q
theorem call_tuple_of : CallR X (.type "tuple") (fun xs H Q => ∃ p ys, xs = [.ref p] ∧ ((SqL X.K H p ys ∧ ∀ l, H l = none → Q (.ref l) (upd H l (.tup ys))) ∨ (SqT X.K H p ys ∧ Q (.ref p) H))) := by
  intro pins s σ H xs us Q I r h
  obtain ⟨p, ys, rfl, h⟩ := h
  obtain ⟨u, rfl, rx⟩ := vals1 r
  cases rx
  rcases h with ⟨hq, q⟩ | ⟨hq, q⟩
  · obtain ⟨its, r', pl, hz⟩ := I.list hq
    have hlen := r'.length
    refine call_tuple_list pl.isList (fun h' kp => ?_) (by simp only [List.size_toArray] <;> omega)
    have I1 : Inv X pins σ H { s with heap := h' } := I.kept (t' := s.toks) kp
    have I2 : Inv X pins σ (upd H h'.objs.size (.tup ys)) { s with heap := h'.push { cls := .type "tuple", data := .seq its.toArray } } :=
      I1.laid (t' := s.toks) (fun b o e => Heap.get?_push_of_some _ e) (Nat.le_refl _) (show ObjOk X.prog X.w _ _ _ (.tup ys) from ⟨hz, its, r', IsTup.new _ _⟩)
    exact ⟨.ref h'.objs.size, _, I2, rfl, q _ (I1.hok.fresh (Nat.le_refl _))⟩
  · obtain ⟨its, r', pl, hz⟩ := I.tuple hq
    exact call_tuple_same pl ⟨.ref p, H, I, rfl, q⟩

/-! ### the call of a builtin's method: o.m(..) -/
/-- the value is of that builtin type -/
def tyV (K : PySem.W.Frag) (T : String) (x : V) (H : Hp) : Prop := match x with
  | .str _ => T = "str"
  | .int _ => T = "int"
  | .ref p => (T = "list" ∧ ∃ xs, SqL K H p xs) ∨ (T = "tuple" ∧ ∃ o, K.lookup p = some o ∧ o.cls = .type "tuple" ∧ o.dict = none) ∨
      (T = "dict" ∧ ((∃ kvs, H p = some (.dK kvs)) ∨ ∃ kvs, H p = some (.dT kvs))) ∨ (T = "set" ∧ ∃ S n, H p = some (.set S n))
  | _ => False
theorem tyV_is {pins : List (Addr × Obj)} {σ : St} {H : Hp} {s : Shared} {T : String} {x : V} {v : Value} (I : Inv X pins σ H s) (r : RelV x v) (ty : tyV X.K T x H) :
    s.TypeIs v T ∧ ∀ a, v = .ref a → ∃ ob, s.heap.get? a = some ob ∧ ob.dict = none := by
  cases x with
  | str z =>
    obtain ⟨t, rfl⟩ := r
    cases (show T = "str" from ty)
    exact ⟨typeIs_str s z t, fun _ e => nomatch e⟩
  | int i =>
    obtain ⟨t, rfl⟩ := r
    cases (show T = "int" from ty)
    exact ⟨typeIs_int s i t, fun _ e => nomatch e⟩
  | ref p =>
    cases r
    rcases ty with ⟨rfl, xs, hq⟩ | ⟨rfl, o, hk, hc, hd⟩ | ⟨rfl, hk⟩ | ⟨rfl, S, n, hk⟩
    · obtain ⟨its, _, pl, _⟩ := I.list hq
      refine ⟨pl.isList.typeIs, fun a e => ?_⟩
      cases e
      obtain ⟨o, n, e, c, hd, _⟩ := pl
      exact ⟨o, e, hd⟩
    · refine ⟨⟨o, I.kIn p o hk, hc⟩, fun a e => ?_⟩
      cases e
      exact ⟨o, I.kIn _ o hk, hd⟩
    · have z : ∃ o, s.heap.get? p = some o ∧ o.ExactDict := by
        rcases hk with ⟨kvs, hk⟩ | ⟨kvs, hk⟩
        · obtain ⟨_, _, _, _, o, _, _, e, ex, _⟩ := I.hok p _ hk
          exact ⟨o, e, ex⟩
        · obtain ⟨_, _, _, _, o, _, _, e, ex, _⟩ := I.hok p _ hk
          exact ⟨o, e, ex⟩
      obtain ⟨o, e, ex⟩ := z
      refine ⟨⟨o, e, ex.1⟩, fun a e2 => ?_⟩
      cases e2
      exact ⟨o, e, ex.2.1⟩
    · obtain ⟨o, _, _, _, e, ex, _⟩ := I.hok p _ hk
      refine ⟨⟨o, e, ex.1⟩, fun a e2 => ?_⟩
      cases e2
      exact ⟨o, e, ex.2.1⟩
  | _ => exact False.elim ty
def tBM (K : PySem.W.Frag) (T : String) (r : V → List V → Hp → VK → Prop) (to : TE) (t : TA) : TE := fun σ H Q => to σ H fun x H1 => tyV K T x H1 ∧ t σ H1 fun xs H2 => r x xs H2 Q
variable {o e : Expr} {es : List Expr} {to : TE} {t : TA} {name : Str} {apos cpos : Pos} {T id : String} {r : V → List V → Hp → VK → Prop}
theorem pe_bm (pa : PlainAttrs T) (slot : Slot T name id) (hty : typeOf (.builtin id) = pure (.type "method_descriptor")) (hm : MtR X id r) (ho : PE X o to) (ha : PA X (e :: es) t)
    (hbase : attributeBase o name X.env (eval o X.env) = eval o X.env := by rfl)
    (hfew : ((backTo cpos (starEach (e :: es) X.env)).all (fun x => !x.1) && (backToKw cpos (keywordEach [] X.env)).all (fun x => x.1.isSome)
      && decide ((e :: es).length + ([] : List Keyword).length + (if ([] : List Keyword).isEmpty then 0 else 1) < 30)) = true := by rfl)
    (hline : (apos.endLine == cpos.line) = true := by rfl) (hs : starEach (e :: es) X.env = (false, eval e X.env) :: starEach es X.env := by rfl) (hplain : (backTo cpos (starEach es X.env)).any (·.1) = false := by rfl) :
    PE X (.Call (.Attribute o name apos) (e :: es) [] cpos) (tBM X.K T r to t) := by
  intro pins s σ H Q I h
  refine wpAny_Call_method_late hbase hfew hline rfl (thn (ho pins s σ H _ I h) fun v s1 ⟨x, H1, I1, r1, ty, q1⟩ => ?_)
  obtain ⟨h1, h2⟩ := tyV_is I1 r1 ty
  refine ⟨T, id, pa, slot, hty, h1, h2, ?_⟩
  have hA := ha cpos pins s1 σ H1 _ I1 q1
  rw [hs] at hA ⊢
  refine Calls.callWith_builtin (by show (false || (backTo cpos (starEach es X.env)).any (·.1)) = false; rw [hplain] <;> rfl) (Calls.evalArgs_plain ?_)
  exact thn hA fun us s2 ⟨vs, H2, I2, r2, q2⟩ => hm pins s2 σ H2 x vs v us Q I2 r1 r2 q2
/- xs.append(e), list.index on a module's tuple .. are MtR facts of 06m -/
end
end L2

namespace L2
open PySem PySem.Spec PyProof.Rows

def MtM (X : Cx) (id : String) (r : V → List V → Hp → VK → Prop) : Prop :=
  ∀ (pins : List (Addr × Obj)) (s : Shared) (σ : St) (H : Hp) (x : V) (xs : List V) (v : Value) (us : List Value) (Q : VK), Inv X pins σ H s → RelV x v → Vals xs us → r x xs H Q →
    wpAny (model X.prog X.w) X.A (call (.builtin id) (v :: us)) (EP X pins σ Q) X.xe s

/-! ### lists of values -/
theorem Vals.one : ∀ {x : V} {us : List Value}, Vals [x] us → ∃ u, us = [u] ∧ RelV x u
  | _, _, .cons r .nil => ⟨_, rfl, r⟩
theorem Vals.two : ∀ {x y : V} {us : List Value}, Vals [x, y] us → ∃ u v, us = [u, v] ∧ RelV x u ∧ RelV y v
  | _, _, _, .cons r (.cons q .nil) => ⟨_, _, rfl, r, q⟩
theorem Vals.zero : ∀ {us : List Value}, Vals [] us → us = []
  | _, .nil => rfl

section
variable {X : Cx} {pins : List (Addr × Obj)} {σ : St} {H : Hp} {s : Shared} {l b : Addr} {xs ys zs : List V}

/-! ### the two steps: a tracked list is rewritten, a new list is laid -/
theorem Inv.lset {its its' : List Value} {n : Nat} {f : Array Value → Array Value} {t' : Nat} (I : Inv X pins σ H s) (hH : H l = some (.lst xs))
    (e : s.heap.get? l = some { cls := .type "list", data := .seq its.toArray n }) (hf : f its.toArray = its'.toArray) (hv : Vals ys its') (hz : ys.length ≤ sizeLine) :
    Inv X pins σ (upd H l (.lst ys)) { s with heap := s.heap.update l (Obj.mapSeq f), toks := t' } := by
  have q := PySem.IsL.update e f
  rw [hf] at q
  refine I.write (x := l) (e := l) (by rw [hH]; exact trivial) (.inl rfl) (fun b' u hb hu => (Heap.get?_update_other s.heap (Obj.mapSeq f) (Ne.symm hb)).trans hu) ⟨_, q⟩ ?_
  exact ⟨hz, its', _, hv, q⟩
theorem Inv.lnew {its : List Value} {t' : Nat} (I : Inv X pins σ H s) (hv : Vals ys its) (hz : ys.length ≤ sizeLine) :
    Inv X pins σ (upd H s.heap.objs.size (.lst ys)) { s with heap := s.heap.push { cls := .type "list", data := .seq its.toArray }, toks := t' } :=
  I.laid (fun _ _ q => Heap.get?_push_of_some _ q) (Nat.le_refl _) ⟨hz, its, 0, hv, Heap.get?_push_size _ rfl⟩
theorem Inv.fresh (I : Inv X pins σ H s) : H s.heap.objs.size = none := I.hok.fresh (Nat.le_refl _)
theorem Inv.lstM (I : Inv X pins σ H s) (hH : H l = some (.lst xs)) : xs.length ≤ sizeLine ∧ ∃ (its : List Value) (n : Nat), Vals xs its ∧ xs.length = its.length ∧ s.heap.get? l = some { cls := .type "list", data := .seq its.toArray n } := by
  obtain ⟨z, its, n, r, e⟩ := I.hok l _ hH
  exact ⟨z, its, n, r, r.length, e⟩

theorem notLongL {n : Nat} (h : n ≤ sizeLine) : Builtin.List.listTooLong n = false := by
  unfold Builtin.List.listTooLong
  exact decide_eq_false (by omega)
end

section
variable {X : Cx}

/-! ### methods -/
def rAppend : V → List V → Hp → VK → Prop := fun x vs H Q => ∃ l xs y, x = .ref l ∧ vs = [y] ∧ H l = some (.lst xs) ∧ xs.length < sizeLine ∧ Q .non (upd H l (.lst (xs ++ [y])))
theorem mt_append : MtM X "list.append" rAppend := by
  intro pins s σ H x vs v us Q I rx rv h
  obtain ⟨l, xs, y, rfl, rfl, hH, hz, q⟩ := h
  cases rx
  obtain ⟨u, rfl, ru⟩ := rv.one
  obtain ⟨z, its, n, r, hl, e⟩ := I.lstM hH
  refine call_meets F.slot_list_append ⟨_, e, rfl⟩ F.entry_list_append (F.args_list_append_2 _ _) (PySem.list_append l its.toArray n u (by rw [List.size_toArray]; omega)) ⟨e, ?_⟩
  refine ⟨.non, _, I.lset (its' := its ++ [u]) hH e (by simp) (r.append (.cons ru .nil)) ?_, rfl, q⟩
  rw [List.length_append, List.length_singleton]
  omega

def rExtend : V → List V → Hp → VK → Prop := fun x vs H Q => ∃ l b xs zs, x = .ref l ∧ vs = [.ref b] ∧ H l = some (.lst xs) ∧ H b = some (.lst zs) ∧ xs.length + zs.length ≤ sizeLine ∧ Q .non (upd H l (.lst (xs ++ zs)))
theorem mt_extend : MtM X "list.extend" rExtend := by
  intro pins s σ H x vs v us Q I rx rv h
  obtain ⟨l, b, xs, zs, rfl, rfl, hH, hB, hz, q⟩ := h
  cases rx
  obtain ⟨u, rfl, ru⟩ := rv.one
  cases ru
  obtain ⟨z, its, n, r, hl, e⟩ := I.lstM hH
  obtain ⟨z2, its2, n2, r2, hl2, e2⟩ := I.lstM hB
  have hsz : its.toArray.size + its2.toArray.size ≤ sizeLine := by rw [List.size_toArray, List.size_toArray]; omega
  have hlong : ¬ (!its.toArray.isEmpty && Builtin.List.listTooLong (its.toArray.size + its2.toArray.size)) = true := by
    rw [notLongL hsz, Bool.and_false]
    exact Bool.false_ne_true
  refine call_meets F.slot_list_extend ⟨_, e, rfl⟩ F.entry_list_extend (F.args_list_extend_2 _ _)
    (AutoSeq1.list_extend_list_list_0 l its.toArray n b its2.toArray n2 hlong (by rw [List.size_toArray]; omega) (by omega)) ⟨e, e2, ?_⟩
  refine ⟨.non, _, I.lset (its' := its ++ its2) hH e (by simp) (r.append r2) ?_, rfl, q⟩
  rw [List.length_append]
  omega





/-! ### list + list, list += list, list * int -/
def rCat : R2 := fun x y H Q => ∃ l b xs zs, x = .ref l ∧ y = .ref b ∧ H l = some (.lst xs) ∧ H b = some (.lst zs) ∧ xs.length + zs.length ≤ sizeLine ∧ ∀ p, H p = none → Q (.ref p) (upd H p (.lst (xs ++ zs)))
theorem op_cat : OpR X (binaryOp .Add) rCat := by
  intro pins s σ H x y v u Q I rx ry h
  obtain ⟨l, b, xs, zs, rfl, rfl, hH, hB, hz, q⟩ := h
  cases rx
  cases ry
  obtain ⟨z, its, n, r, hl, e⟩ := I.lstM hH
  obtain ⟨z2, its2, n2, r2, hl2, e2⟩ := I.lstM hB
  refine PySem.P.add_list e e2 ?_ (by rw [List.size_toArray, List.size_toArray]; omega)
  have ea : its.toArray ++ its2.toArray = (its ++ its2).toArray := by simp
  rw [ea]
  exact ⟨.ref _, _, I.lnew (t' := s.toks) (r.append r2) (by rw [List.length_append]; omega), rfl, q _ I.fresh⟩

/-! ### del xs[i] -/
end

/-! ### xs[a:b] = ys -/
section
variable {prog : Program} {w : World} {A : Around} {E : Value → Shared → Prop} {s : Shared}
set_option maxRecDepth 100000 in
end

section
variable {X : Cx}
end
end L2

namespace Att
open PySem PySem.W PySem.Calls PyProof.Rows

/-! ### the script -/
theorem ints_of_wellAll {P : Params} {h : Heap} : ∀ (ns : List Int) (vs : List Value), WellAll P h vs (ns.map WData.int) → IntsAre vs ns := by
  intro ns
  induction ns with
  | nil =>
    intro vs w
    rw [List.map_nil] at w
    cases w
    exact .nil
  | cons n ns ih =>
    intro vs w
    rw [List.map_cons] at w
    cases w with
    | cons a b =>
      cases a
      exact .cons _ _ (ih _ b)

theorem script_of {l : OpenLaw} {n : Nat} (hn : l.most = some n) {P : Params} {h : Heap} {args : List WData} {vals : List Value}
    (hpre : l.row.toRowW.claim.pre args = true) (hwl : WellAll P h vals args) :
    ∃ a vs ns, vals = [Value.ref a] ∧ args = [WData.list (ns.map WData.int)] ∧ h.get? a = some { cls := .type "list", data := .seq vs.toArray } ∧ IntsAre vs ns ∧ ns.length ≤ n := by
  have hsh : WShape.hasAll [] args [.list .int] = true := (pre_splitW hpre).1
  have hc : l.pre.holds [] { args := args } = true := (pre_splitW hpre).2
  obtain ⟨d, r, rfl, h1, h2⟩ := hasAllW_cons hsh
  obtain rfl := hasAllW_nil h2
  obtain ⟨xs, rfl, h3⟩ := hasW_list h1
  obtain ⟨ns, rfl⟩ := items_int h3
  have hlen : ns.length ≤ n := by
    unfold OpenLaw.pre at hc
    have h4 : (WTm.not (.lt (.lit (.int (n : Int))) (.len (.arg 0)))).holds [] { args := [.list (ns.map .int)] } = true := by
      have h4 := (holds_andW hc).1
      rw [hn] at h4
      exact h4
    have h5 := condW_of h4 (w_not (w_lt w_lit (w_len_list (w_arg rfl))))
    rw [List.length_map] at h5
    refine Nat.le_of_not_lt fun q => ?_
    have q' : (n : Int) < ((ns.length : Nat) : Int) := by omega
    first
      | (rw [decide_eq_true q'] at h5; exact absurd h5 (by decide))
      | (simp at h5; omega)
  cases hwl with
  | cons w1 w2 =>
    cases w2
    cases w1 with
    | list ho hall => exact ⟨_, _, ns, rfl, rfl, ho, ints_of_wellAll ns _ hall, hlen⟩

theorem post_true (l : OpenLaw) (args : List WData) : l.row.toRowW.claim.post args (.bool true) args = true :=
  postW_of (r := l.row.toRowW) (X := (true == true))
    (show WShape.has [] (.bool true) .bool = true by first | rfl | decide | simp [WShape.has, WShape.arms, WShape.armsAll])
    (show (WTm.eq .res (.lit (.bool true))).value [] { args := args, res := some (.bool true), after := args } = some (.bool (true == true)) from w_eq_bool (w_res rfl) w_lit) rfl

/-! ### the attachment: holds_open's last premise (the goal 'hc' behind k_head) from a wpAny of the law's body -/

/-- the same from a codeAny of the CALL (for a layer whose function contracts speak of calls) -/
theorem attach_call {l : OpenLaw} {n : Nat} {q : Program} {loose : List Str} {XP : (Str → Option Value) → Heap → Prop} {YP : World → Heap → Prop} {d : DefRec}
    (hn : l.most = some n) (hdf : d.params.defaults = [])
    (call : ∀ (w : World) (s₀ s₁ : Shared) (mg mb : Str → Option Value) (fa : Addr) (o : Obj) (pm cd doc : Value) (a : Addr) (vs : List Value) (ns : List Int),
      Ground q loose [] XP w s₀ mg mb s₁.heap → YP w s₁.heap →
      s₁.heap.get? fa = some o → o.data = .func (docDef d.name d.params d.body d.scope pm cd doc) → s₁.heap.CodeRec cd d.name → mg d.name = some (.ref fa) →
      s₁.heap.get? a = some { cls := .type "list", data := .seq vs.toArray } → IntsAre vs ns → ns.length ≤ n → s₁.gens = #[] →
      codeAny (model l.prog w) callerA (.call (.ref fa) ⟨[.ref a], []⟩) (fun r s' => r = .ok (.ret (.bool true)) ∧ OldK s₁.heap s'.heap ∧ s'.os = s₁.os ∧ AllBare s'.gens) s₁) :
    WalkO q loose XP YP l.row.toRowW d [] (fun f vs => PySem.call f vs) := by
  intro w s₀ s₁ mg mb G Y fa o pm cd doc dV kV ho hd hcd hD hmg hg args vals as hpre hlay hrd hwl hlo
  obtain rfl : dV = .none := Dflts.none hD hdf
  obtain rfl : kV = .none := Dflts.noKw hD
  obtain ⟨a, vs, ns, rfl, rfl, hobj, hints, hlen⟩ := script_of hn hpre hwl
  refine enter_call (codeAny_mono (call w s₀ s₁ mg mb fa o pm cd doc a vs ns G Y ho (fd_plain hd) hcd hmg hobj hints hlen hg) fun r s' hq => ?_)
  obtain ⟨rfl, h2, h3, h4⟩ := hq
  exact ⟨.inl ⟨.bool true, .bool true, [], rfl, fun _ => rfl, .bool true, post_true l _, fun _ => ⟨List.Pairwise.nil, fun _ hm => (nomatch hm)⟩⟩, h2, h3, h4⟩


/-! ### rules over ANY heap (no ledger) from facts about the written part K: the library's own take a ledger (News) for what they write -/
section
variable {prog : Program} {w : World} {A : Around} {E : Value → Shared → Prop} {s : Shared} {K : Frag}





/-! the whole heap as the ledger: makes every rule that writes through a ledger a rule over any heap -/
def ledger (h : Heap) (L d : Addr) : List (Addr × Obj) := (List.range h.objs.size).filterMap fun a => if a = L ∨ a = d then none else (h.get? a).map fun o => (a, o)

end
end Att

namespace L2
open PySem PySem.Spec PyProof.Rows

theorem vals_ints : ∀ {vs : List Value} {ns : List Int}, IntsAre vs ns → Vals (ns.map V.int) vs
  | _, _, .nil => .nil
  | _, _, .cons n t h => .cons ⟨t, rfl⟩ (vals_ints h)

/-- nothing is tracked but the script, known to the object (or it is an object of the module) -/
def Only (H : Hp) : Prop := ∀ b, H b = none ∨ ∃ o xs, H b = some (.frz o (.lst xs))

/-- THE HEAD: the law's promise, at the heap behind the top. F, the promise of the law's def, may use that base is part of the heap (so K.In base, base.Ns mainGlobals mg stand in Mod) -/
theorem law_call {P : Program} {w : World} {K : PySem.W.Frag} {mg mb : Str → Option Value} {CX : CXT} {k : Nat} {fa a : Addr} {fd : FuncData} {x : Str} {sp : Sp} {s₁ : Shared} {vs : List Value} {ns : List Int}
    (KX : K.In s₁.heap) (hns : s₁.heap.Ns mainGlobals mg) (hb : s₁.heap.Ns builtinsNs mb) (hbb : ∀ x : Str, x ≠ "__name__" → mb x = bootBuiltins x) (hlim : s₁.heap.NoLimit) (hg : s₁.gens = #[])
    (ha : s₁.heap.get? a = some { cls := .type "list", data := .seq vs.toArray }) (hi : IntsAre vs ns) (hl : ns.length ≤ sizeLine) (hr : Room k callerA)
    (F : ∀ base : Heap, K.In base → base.Ns mainGlobals mg → FnOk P w K mg base CX k fa fd [x] sp) (hbind : ∀ (s : Shared) (u : Value), BindsTo s fd ⟨[u], []⟩ [(x, u)])
    (hsp : ∀ H : Hp, Only H → SqL K H a (ns.map V.int) → sp [.ref a] H (fun v _ => v = .bl true) fun _ _ _ => False)
    (hCX : ∀ H e s', CX [] H s₁ (fun _ _ _ => False) e s' → False) :
    codeAny (model P w) callerA (.call (.ref fa) ⟨[.ref a], []⟩) (fun r s' => r = .ok (.ret (.bool true)) ∧ OldK s₁.heap s'.heap ∧ s'.os = s₁.os ∧ AllBare s'.gens) s₁ := by
  have rv := vals_ints hi
  have lenV := hi.length
  -- from an abstract heap in which nothing but the script may be tracked
  have core : ∀ H : Hp, Only H → SqL K H a (ns.map V.int) → HOk P w H s₁.heap → (∀ b, H b ≠ none → b = a) → (H a ≠ none → K.lookup a = none) →
      codeAny (model P w) callerA (.call (.ref fa) ⟨[.ref a], []⟩) (fun r s' => r = .ok (.ret (.bool true)) ∧ OldK s₁.heap s'.heap ∧ s'.os = s₁.os ∧ AllBare s'.gens) s₁ := by
    intro H hO hS hok hA hK
    have base_of : ∀ {b : Addr} {o : Obj}, s₁.heap.get? b = some o → H b = none → (hidT s₁.heap H).get? b = some o := fun e n => hidT_get e n
    have noA : ∀ {b : Addr} {o : Obj} {es : Array DictEntry} {ep : Nat}, s₁.heap.get? b = some o → o.data = .dict es ep → H b = none := fun {b o es ep} e d => by
      cases q : H b with
      | none => rfl
      | some u =>
        have e' : b = a := hA b (by rw [q]; simp)
        subst e'
        rw [ha] at e; cases e
        have d' : Data.seq vs.toArray _ = Data.dict es ep := d
        cases d'
    have nsK : ∀ {b : Addr} {m : Str → Option Value}, s₁.heap.Ns b m → (hidT s₁.heap H).Ns b m := fun {b m} ⟨o, es, ep, e, d, r⟩ => ⟨o, es, ep, base_of e (noA e d), d, r⟩
    have hKb : K.In (hidT s₁.heap H) := fun b o e => base_of (KX b o e) (by
      cases q : H b with
      | none => rfl
      | some u =>
        have e' : b = a := hA b (by rw [q]; simp)
        subst e'
        rw [hK (by rw [q]; simp)] at e; cases e)
    have hM : Mod K mg (hidT s₁.heap H) := ⟨hKb, nsK hns, ⟨mb, nsK hb, hbb⟩, let ⟨mc, h1, h2⟩ := hlim; ⟨mc, nsK h1, h2⟩⟩
    have e0 : Env0 P w K mg (hidT s₁.heap H) callerA [] s₁ H := ⟨rfl, hM, fun b o e => of_hidT e, Nat.le_of_eq (hidT_size _ _), trivial, fun b hb => absurd (show b ∈ ([] : List Addr) from hb) (by simp), hok, .of_eq hg⟩
    refine codeAny_mono ((F _ hKb (nsK hns)).run callerA [] s₁ H ⟨[.ref a], []⟩ [.ref a] [.ref a] _ _ hr e0 (hbind s₁ (.ref a)) (.cons rfl .nil) (hsp H hO hS)) fun r s' h => ?_
    cases r with
    | error e => exact (hCX H e s' h).elim
    | ok fl =>
      cases fl with
      | next => exact False.elim h
      | brk => exact False.elim h
      | cont => exact False.elim h
      | ret u =>
        obtain ⟨v, H', os, bare, un, hok', r', q⟩ := h
        have q' : v = .bl true := q
        subst q'
        obtain rfl : u = Value.bool true := r'
        refine ⟨rfl, OldK.of_keep fun b o e => ?_, os, bare⟩
        cases q : H b with
        | none => exact un.keep b o e q (by intro z; exact absurd (show b ∈ ([] : List Addr) from z) (by simp)) (by simp)
        | some u =>
          rcases hO b with z | ⟨ob, xs, z⟩
          · rw [q] at z; cases z
          · have z2 := un.frzs b ob _ z
            obtain ⟨e1, _⟩ := hok b _ z
            obtain ⟨e2, _⟩ := hok' b _ z2
            rw [e] at e1; cases e1
            exact e2
  cases hk : K.lookup a with
  | some o =>
    -- the script is one of the module's own objects
    have e := KX a o hk
    rw [ha] at e
    cases e
    refine core (fun _ => none) (fun _ => .inl rfl) (.inr ⟨_, vs.toArray, _, hk, rfl, rfl, rfl, by rw [List.size_toArray, lenV]; exact hl, by simpa using rv⟩) (fun b u z => by have z' : (none : Option HO) = some u := z; cases z') (fun b z => absurd rfl z) fun z => absurd rfl z
  | none =>
    refine core (fun b => if b = a then some (.frz { cls := .type "list", data := .seq vs.toArray } (.lst (ns.map V.int))) else none) (fun b => ?_) (.inl (.inr ⟨{ cls := .type "list", data := .seq vs.toArray }, if_pos rfl⟩)) (fun b u z => ?_) (fun b z => ?_) fun _ => hk
    · by_cases hb : b = a
      · exact .inr ⟨_, _, if_pos hb⟩
      · exact .inl (if_neg hb)
    · by_cases hb : b = a
      · have z' := (if_pos hb).symm.trans z
        cases z'
        subst hb
        exact ⟨ha, by rw [List.length_map]; exact hl, vs, _, rv, ha⟩
      · have z' := (if_neg hb).symm.trans z
        cases z'
    · by_cases hb : b = a
      · exact hb
      · exact absurd (if_neg hb) z
end L2

namespace L2
open PySem PySem.Spec PyProof.Rows

abbrev KOf {K : PySem.W.Frag} {h : Heap} (_ : K.In h) : PySem.W.Frag := K

/-- the goal that k_head leaves (case hc), from the law's promise. F gives the function object fd (K's own) once, then the promise over every base -/
theorem walk_of {l : PySem.W.OpenLaw} {n k : Nat} {q : Program} {loose : List Str} {XP : (Str → Option Value) → Heap → Prop} {YP : World → Heap → Prop} {d : DefRec} {K : Params → PySem.W.Frag} {CX : World → CXT} {sp : World → Sp} {x : Str}
    (hn : l.most = some n) (hn2 : n ≤ sizeLine) (hdf : d.params.defaults = []) (hr : Room k callerA)
    (hY : ∀ (w : World) (h : Heap), YP w h → (K w.params).In h)
    (F : ∀ (w : World) (mg : Str → Option Value) (fa : Addr) (h : Heap), (K w.params).In h → h.Ns mainGlobals mg → mg d.name = some (.ref fa) →
      ∃ fd : FuncData, (∀ (s : Shared) (u : Value), BindsTo s fd ⟨[u], []⟩ [(x, u)]) ∧
        ∀ base : Heap, (K w.params).In base → base.Ns mainGlobals mg → FnOk l.prog w (K w.params) mg base (CX w) k fa fd [x] (sp w))
    (hsp : ∀ (w : World) (H : Hp) (a : Addr) (ns : List Int), ns.length ≤ n → Only H → SqL (K w.params) H a (ns.map V.int) → sp w [.ref a] H (fun v _ => v = .bl true) fun _ _ _ => False)
    (hCX : ∀ (w : World) (H : Hp) (s : Shared) (e : Value) (s' : Shared), CX w [] H s (fun _ _ _ => False) e s' → False) :
    PySem.W.WalkO q loose XP YP l.row.toRowW d [] (fun f vs => PySem.call f vs) := by
  refine Att.attach_call hn hdf fun w s₀ s₁ mg mb fa o pm cd doc a vs ns G Y ho hd hcd hmg hobj hints hlen hg => ?_
  have KX := hY w _ Y
  obtain ⟨fd, hb, hF⟩ := F w mg fa _ KX G.T.g hmg
  exact law_call KX G.T.g G.T.b G.T.builtins G.T.nolimit hg hobj hints (Nat.le_trans hlen hn2) hr hF hb (fun H hO hS => hsp w H a ns hlen hO hS) fun H e s' => hCX w H s₁ e s'
end L2

/- THE LAST THEOREM (shape; LID, My.* are yours):
   My.Adr: a structure of the addresses that your layer names (classes, functions); My.Txt K t: a structure (Prop) of the equations over K;
   My.txt_mk : {K} {implicit addresses ..} (e1 : nsIn K mainGlobals "law" = some (some (.ref f))) (e2 : K.lookup f = some ⟨oc, od, .func (fnOf "law" "law" params body scope dV kV doc pm an cdv ct), sl⟩) (e3 : codeIn K cdv "law" = true) .. : ∃ t, My.Txt K t

set_option maxRecDepth 100000 in
set_option maxHeartbeats 0 in
theorem PySem.Challenge.cw_LID_holds : PySem.Challenge.rw_LID.Holds := by
  w_on; o_law; k_head; (case hw => w_witness2)
  k_fill
  refine L2.walk_of (l := PySem.Challenge.rw_LID) (n := 63) (k := 40) (x := "script") (CX := fun w => ..) (sp := fun _ => My.sp_law) rfl (by decide) rfl ⟨rfl, by decide, by decide⟩ (fun w h Y => PySem.W.kIn_of Y) ?F ?S ?C
  case F =>
    intro w mg fa h KX G hmg
    have T : ∃ t, My.Txt (L2.KOf KX) t := by
      dsimp only [L2.KOf]                          -- K must stand as «<heap const> w.params» for k_is
      refine' My.txt_mk ?e1 ?e2 ?e3 ..
      (case e1 => PySem.W.k_is)                    -- in the order: a name -> its address -> its object -> its parts
      (case e2 => PySem.W.k_is)
      ..
    obtain ⟨t, T⟩ := T
    have e0 := hmg.symm.trans (PySem.W.mg_of KX G T.law)
    cases e0                                       -- fa is the law's own address
    exact ⟨_, fun s u => .of_eq rfl, fun base kb nb => My.law_fn T kb nb⟩     -- if «.of_eq rfl» comes too early: refine' ⟨_, ?b, fun base kb nb => My.law_fn T kb nb⟩; exact fun s u => .of_eq rfl
  case S => exact fun w H a ns hl hO hS => ..
  case C => exact ..
(the tactic k_is has no namespace: write k_is) -/

/-! SHORT WORDS over the layer: a def of the text, its body, what a loop and a test want. -/
namespace L2
open PySem PySem.Spec PyProof.Rows

/-! ### the text by places -/
def defArgs (s : Stmt) : Arguments := match s with
  | .FunctionDef _ a _ _ _ _ _ _ _ _ => a
  | _ => { posonlyargs := [], args := [], vararg := none, kwonlyargs := [], kw_defaults := [], kwarg := none, defaults := [] }
def defBody (s : Stmt) : List Stmt := match s with
  | .FunctionDef _ _ b _ _ _ _ _ _ _ => b
  | _ => []
def defScope (s : Stmt) : Scope := match s with
  | .FunctionDef _ _ _ _ _ _ sc _ _ _ => sc
  | _ => { kind := .function, names := [], isGenerator := false, isCoroutine := false }

/-! ### no exception leaves a def -/
abbrev CX0 : CXT := fun _ _ _ _ _ _ => False
abbrev E0 : XK := fun _ _ _ => False

/-! ### a def (or method) of the text as it stands behind the top -/
structure Fun (K : PySem.W.Frag) (x qual : Str) (st : Stmt) (f : Addr) (fd : FuncData) : Prop where
  ex : ∃ (oc : Value) (od : Option Addr) (kV doc pm : Value) (an : Option Addr) (cdv ct : Value) (osl : Array (Option Value)),
    fd = PySem.W.fnOf x qual (defArgs st) (defBody st) (defScope st) .none kV doc pm an cdv ct ∧ K.lookup f = some ⟨oc, od, .func fd, osl⟩ ∧ PySem.W.codeIn K cdv qual = true
  kp : PySem.W.keepIn K (.ref f) = true
section
variable {P : Program} {w : World} {K : PySem.W.Frag} {mg : Str → Option Value} {base : Heap}
/-- THE RULE for a def: its body as a term of rules, and the reading of that term -/
theorem Fun.ok {x qual : Str} {st : Stmt} {f : Addr} {fd : FuncData} {N ps : List Str} {k : Nat} {sp : Sp} (F : Fun K x qual st f fd) (S : FnScope N ps (defScope st)) (len : ∀ vs H Q E, sp vs H Q E → vs.length = ps.length)
    (hbody : ∀ (cdv : Value) (A : Around) (outer : List Env) (s : Shared) (H : Hp) (vs : List V) (Q : VK) (E : XK), Room k (A.deeper (envOfC qual (defScope st) s.heap.objs.size f cdv)) → sp vs H Q E →
      ∃ t, PSs (cxOf CX0 P w K mg base N qual (defScope st) f cdv A outer s H E).nox (defBody st) t ∧ t { nx := fun _ H' => Q .non H', rt := Q } (start N vs) H) : FnOk P w K mg base CX0 (k + 1) f fd ps sp := by
  obtain ⟨oc, od, kV, doc, pm, an, cdv, ct, osl, rfl, lk, hcd⟩ := F.ex
  refine fn_of lk hcd S len fun A outer s H vs Q E hr hsp => ?_
  obtain ⟨t, h, q⟩ := hbody cdv A outer s H vs Q E hr hsp
  exact ⟨t, h.nox, q⟩
/-- how its arguments bind (no defaults): h is «fun _ _ _ _ _ _ us hl => match us, hl with | [_, _], _ => rfl», one _ a parameter -/
theorem Fun.binds {x qual : Str} {st : Stmt} {f : Addr} {fd : FuncData} {ps : List Str} (F : Fun K x qual st f fd)
    (h : ∀ (kV doc pm : Value) (an : Option Addr) (cdv ct : Value) (us : List Value), us.length = ps.length → bindArgs (PySem.W.fnOf x qual (defArgs st) (defBody st) (defScope st) .none kV doc pm an cdv ct) ⟨us, []⟩ = pure (ps.zip us)) : Binds K fd ps [] := by
  obtain ⟨oc, od, kV, doc, pm, an, cdv, ct, osl, rfl, lk, hcd⟩ := F.ex
  exact .all (h kV doc pm an cdv ct)
theorem fun_mk {x qual : Str} {st : Stmt} {f : Addr} {oc : Value} {od an : Option Addr} {osl : Array (Option Value)} {kV doc pm cdv ct : Value} (l : K.lookup f = some ⟨oc, od, .func (PySem.W.fnOf x qual (defArgs st) (defBody st) (defScope st) .none kV doc pm an cdv ct), osl⟩)
    (c : PySem.W.codeIn K cdv qual = true) (k : PySem.W.keepIn K (.ref f) = true) : Fun K x qual st f (PySem.W.fnOf x qual (defArgs st) (defBody st) (defScope st) .none kV doc pm an cdv ct) := ⟨⟨oc, od, kV, doc, pm, an, cdv, ct, osl, rfl, l, c⟩, k⟩
end
theorem small1000 {n : Nat} (h : n ≤ 1000) : n < sizeLine := Nat.lt_of_le_of_lt h (by decide)

/-! ### expressions in short: the name that stands in the i-th slot -/
section
variable {X : Cx}
end

/-! ### tests -/

/-! ### heaps -/
/-- all that was tracked is as it was -/
def Same (H H' : Hp) : Prop := ∀ b o, H b = some o → H' b = some o
theorem Same.refl (H : Hp) : Same H H := fun _ _ h => h
theorem Same.trans {H H1 H2 : Hp} (a : Same H H1) (b : Same H1 H2) : Same H H2 := fun c o h => b c o (a c o h)
theorem Same.free {H H' : Hp} (e : Same H H') {l : Addr} (h : H' l = Option.none) : H l = Option.none := by
  cases q : H l with
  | none => rfl
  | some o =>
    rw [e l o q] at h
    cases h
theorem Same.seq {K : PySem.W.Frag} {H H' : Hp} {a : Addr} {xs : List V} (e : Same H H') (h : SqL K H a xs) : SqL K H' a xs := by
  rcases h with (h | ⟨o, h⟩) | h
  · exact .inl (.inl (e _ _ h))
  · exact .inl (.inr ⟨o, e _ _ h⟩)
  · exact .inr h

end L2

/-! A LAYER OF DATA over the hand layer: values without addresses (tuples, and lists, dicts, instances that nobody changes any more, are data), a store of what changes, each rule as a plain function. -/
namespace L4
open PySem PySem.Spec PyProof.Rows L2
/-! a thing that the kernel does not open -/
theorem hide_ex {α : Type} (a : α) : ∃ b, b = a := ⟨a, rfl⟩
noncomputable def hide {α : Type} (a : α) : α := Classical.choose (hide_ex a)
@[simp] theorem hide_eq {α : Type} (a : α) : hide a = a := Classical.choose_spec (hide_ex a)

/-! ### data, store, outcomes -/
inductive D where
  | non | bl (b : Bool) | int (i : Int) | str (x : Str) | tup (xs : List D) | scr (ns : List Int) | ref (n : Nat)
  | lst (xs : List D) | dic (ks : List Key) (xs : List D) | obj (c : Nat) (ns : List Str) (xs : List D) | exn (c : Nat)
inductive Ob where
  | lst (xs : List D)
  | dic (kvs : List (Key × D))
  | ins (c : Nat) (fs : List (Str × D))
abbrev Sto := List Ob
abbrev St := L2.St
abbrev Ev := List (Option D)
structure Xn where
  cls : Nat
inductive Out (α : Type) where
  | ok (a : α) (σ : Sto)
  | ex (x : Xn) (σ : Sto)
  | bad
abbrev M (α : Type) := Sto → Out α
def ret {α : Type} (a : α) : M α := fun σ => .ok a σ
def bad {α : Type} : M α := fun _ => .bad
def Out.bind {α β : Type} (o : Out α) (k : α → M β) : Out β := match o with
  | .ok a σ' => k a σ'
  | .ex x σ' => .ex x σ'
  | .bad => .bad
def bnd {α β : Type} (m : M α) (k : α → M β) : M β := fun σ => (m σ).bind k
/-- what stands behind a statement -/
inductive Fl where
  | nx (ρ : Ev) | rt (d : D) | bk (ρ : Ev) | ct (ρ : Ev) | xc (ρ : Ev) (x : Xn)

/-- the text's table: its written part, the classes' addresses -/
structure Tb where
  K : PySem.W.Frag
  ca : Nat → Addr
def Tb.cv (T : Tb) (x : Xn) : Value := .ref (T.ca x.cls)
/-- an exception that was caught -/
def ExcAt (C a : Addr) : Heap → Prop := fun h => ∃ o, h.get? a = some o ∧ o.cls = .ref C

/-! ### how data lie in the heap -/
def Scr (K : PySem.W.Frag) (H : Hp) (a : Addr) (ns : List Int) : Prop :=
  (∃ o, H a = some (.frz o (.lst (ns.map V.int)))) ∨
    ∃ (o : Obj) (its : Array Value) (n : Nat), K.lookup a = some o ∧ o.cls = .type "list" ∧ o.dict = none ∧ o.data = .seq its n ∧ its.size ≤ sizeLine ∧ Vals (ns.map V.int) its.toList
theorem Scr.seq {K : PySem.W.Frag} {H : Hp} {a : Addr} {ns : List Int} (h : Scr K H a ns) : SqL K H a (ns.map V.int) := by
  rcases h with ⟨o, h⟩ | h
  · exact .inl (.inr ⟨o, h⟩)
  · exact .inr h
mutual
def Rep (T : Tb) (μ : List Addr) (H : Hp) : D → V → Prop
  | .non, v => v = .non
  | .bl b, v => v = .bl b
  | .int i, v => v = .int i
  | .str x, v => v = .str x
  | .tup ds, v => ∃ p vs, v = .ref p ∧ H p = some (.tup vs) ∧ RepL T μ H ds vs
  | .scr ns, v => ∃ a, v = .ref a ∧ Scr T.K H a ns
  | .ref n, v => ∃ a, v = .ref a ∧ μ[n]? = some a
  | .lst ds, v => ∃ a vs, v = .ref a ∧ a ∉ μ ∧ H a = some (.lst vs) ∧ RepL T μ H ds vs
  | .dic ks ds, v => ∃ a kvs, v = .ref a ∧ a ∉ μ ∧ H a = some (.dK kvs) ∧ kvs.map (·.1) = ks ∧ RepL T μ H ds (kvs.map (·.2))
  | .obj c ns ds, v => ∃ a dx fs, v = .ref a ∧ a ∉ μ ∧ H a = some (.ins (T.ca c) dx fs) ∧ fs.map (·.1) = ns ∧ RepL T μ H ds (fs.map (·.2))
  | .exn c, v => ∃ a, v = .ref a ∧ a ∉ μ ∧ H a = some (.ext (ExcAt (T.ca c) a))
def RepL (T : Tb) (μ : List Addr) (H : Hp) : List D → List V → Prop
  | [], vs => vs = []
  | d :: ds, vs => ∃ v r, vs = v :: r ∧ Rep T μ H d v ∧ RepL T μ H ds r
end
structure Ext (μ : List Addr) (H : Hp) (μ' : List Addr) (H' : Hp) : Prop where
  pre : ∃ r, μ' = μ ++ r
  tup : ∀ p xs, H p = some (.tup xs) → H' p = some (.tup xs)
  frz : ∀ p o u, H p = some (.frz o u) → H' p = some (.frz o u)
  keep : ∀ p o, H p = some o → p ∉ μ → H' p = some o ∧ p ∉ μ'
theorem Ext.refl (μ : List Addr) (H : Hp) : Ext μ H μ H := ⟨⟨[], by simp⟩, fun _ _ h => h, fun _ _ _ h => h, fun _ _ h n => ⟨h, n⟩⟩
theorem Ext.trans {μ μ1 μ2 : List Addr} {H H1 H2 : Hp} (a : Ext μ H μ1 H1) (b : Ext μ1 H1 μ2 H2) : Ext μ H μ2 H2 := by
  obtain ⟨⟨r, rfl⟩, t1, f1, k1⟩ := a
  obtain ⟨⟨r', rfl⟩, t2, f2, k2⟩ := b
  exact ⟨⟨r ++ r', by simp⟩, fun p xs h => t2 p xs (t1 p xs h), fun p o u h => f2 p o u (f1 p o u h), fun p o h n => k2 p o (k1 p o h n).1 (k1 p o h n).2⟩
theorem Ext.get {μ μ' : List Addr} {H H' : Hp} (e : Ext μ H μ' H') {n : Nat} {a : Addr} (h : μ[n]? = some a) : μ'[n]? = some a := by
  obtain ⟨⟨r, rfl⟩, _, _⟩ := e
  rw [List.getElem?_append_left (List.getElem?_eq_some_iff.mp h).1]; exact h
mutual
theorem Rep.mono {T : Tb} {μ μ' : List Addr} {H H' : Hp} (e : Ext μ H μ' H') : ∀ (d : D) (v : V), Rep T μ H d v → Rep T μ' H' d v
  | .non, v, h => by simpa [Rep] using h
  | .bl b, v, h => by simpa [Rep] using h
  | .int i, v, h => by simpa [Rep] using h
  | .str x, v, h => by simpa [Rep] using h
  | .tup ds, v, h => by
    rw [Rep] at h ⊢
    obtain ⟨p, vs, h1, h2, h3⟩ := h
    exact ⟨p, vs, h1, e.tup _ _ h2, RepL.mono e ds vs h3⟩
  | .scr ns, v, h => by
    rw [Rep] at h ⊢
    obtain ⟨a, h1, h2⟩ := h
    refine ⟨a, h1, ?_⟩
    rcases h2 with ⟨o, h2⟩ | h2
    · exact .inl ⟨o, e.frz _ _ _ h2⟩
    · exact .inr h2
  | .ref n, v, h => by
    rw [Rep] at h ⊢
    obtain ⟨a, h1, h2⟩ := h
    exact ⟨a, h1, e.get h2⟩
  | .lst ds, v, h => by
    rw [Rep] at h ⊢
    obtain ⟨a, vs, h1, h2, h3, h4⟩ := h
    exact ⟨a, vs, h1, (e.keep _ _ h3 h2).2, (e.keep _ _ h3 h2).1, RepL.mono e ds vs h4⟩
  | .dic ks ds, v, h => by
    rw [Rep] at h ⊢
    obtain ⟨a, vs, h1, h2, h3, h5, h4⟩ := h
    exact ⟨a, vs, h1, (e.keep _ _ h3 h2).2, (e.keep _ _ h3 h2).1, h5, RepL.mono e ds _ h4⟩
  | .obj c ns ds, v, h => by
    rw [Rep] at h ⊢
    obtain ⟨a, dx, vs, h1, h2, h3, h5, h4⟩ := h
    exact ⟨a, dx, vs, h1, (e.keep _ _ h3 h2).2, (e.keep _ _ h3 h2).1, h5, RepL.mono e ds _ h4⟩
  | .exn c, v, h => by
    rw [Rep] at h ⊢
    obtain ⟨a, h1, h2, h3⟩ := h
    exact ⟨a, h1, (e.keep _ _ h3 h2).2, (e.keep _ _ h3 h2).1⟩
theorem RepL.mono {T : Tb} {μ μ' : List Addr} {H H' : Hp} (e : Ext μ H μ' H') : ∀ (ds : List D) (vs : List V), RepL T μ H ds vs → RepL T μ' H' ds vs
  | [], vs, h => by simpa [RepL] using h
  | d :: ds, vs, h => by
    rw [RepL] at h ⊢
    obtain ⟨v, r, h1, h2, h3⟩ := h
    exact ⟨v, r, h1, Rep.mono e d v h2, RepL.mono e ds r h3⟩
end
theorem RepL.nil {T : Tb} {μ : List Addr} {H : Hp} : RepL T μ H [] [] := by rw [RepL]
theorem RepL.cons {T : Tb} {μ : List Addr} {H : Hp} {d : D} {v : V} {ds : List D} {vs : List V} (h1 : Rep T μ H d v) (h2 : RepL T μ H ds vs) : RepL T μ H (d :: ds) (v :: vs) := by
  rw [RepL]; exact ⟨v, vs, rfl, h1, h2⟩
theorem RepL.length {T : Tb} {μ : List Addr} {H : Hp} : ∀ {ds : List D} {vs : List V}, RepL T μ H ds vs → ds.length = vs.length
  | [], vs, h => by rw [RepL] at h; subst h; rfl
  | d :: ds, vs, h => by
    rw [RepL] at h
    obtain ⟨v, r, rfl, _, h3⟩ := h
    simp [RepL.length h3]
theorem RepL.get {T : Tb} {μ : List Addr} {H : Hp} : ∀ {ds : List D} {vs : List V} {i : Nat} {d : D}, RepL T μ H ds vs → ds[i]? = some d → ∃ v, vs[i]? = some v ∧ Rep T μ H d v
  | [], vs, i, d, h, e => by simp at e
  | d :: ds, vs, 0, x, h, e => by
    rw [RepL] at h
    obtain ⟨v, r, rfl, h2, h3⟩ := h
    simp at e; subst e
    exact ⟨v, rfl, h2⟩
  | d :: ds, vs, i + 1, x, h, e => by
    rw [RepL] at h
    obtain ⟨v, r, rfl, h2, h3⟩ := h
    simpa using RepL.get (i := i) h3 (by simpa using e)
theorem RepL.append {T : Tb} {μ : List Addr} {H : Hp} : ∀ {ds es : List D} {vs us : List V}, RepL T μ H ds vs → RepL T μ H es us → RepL T μ H (ds ++ es) (vs ++ us)
  | [], es, vs, us, h, h' => by rw [RepL] at h; subst h; simpa using h'
  | d :: ds, es, vs, us, h, h' => by
    rw [RepL] at h
    obtain ⟨v, r, rfl, h2, h3⟩ := h
    exact RepL.cons h2 (RepL.append h3 h')
theorem RepL.set {T : Tb} {μ : List Addr} {H : Hp} {d : D} {v : V} (hd : Rep T μ H d v) : ∀ {ds : List D} {vs : List V} (i : Nat), RepL T μ H ds vs → RepL T μ H (ds.set i d) (vs.set i v)
  | [], vs, i, h => by rw [RepL] at h; subst h; simpa using RepL.nil
  | x :: ds, vs, 0, h => by
    rw [RepL] at h
    obtain ⟨w, r, rfl, h2, h3⟩ := h
    exact RepL.cons hd h3
  | x :: ds, vs, i + 1, h => by
    rw [RepL] at h
    obtain ⟨w, r, rfl, h2, h3⟩ := h
    exact RepL.cons h2 (RepL.set hd i h3)
theorem RepL.drop {T : Tb} {μ : List Addr} {H : Hp} : ∀ {ds : List D} {vs : List V} (n : Nat), RepL T μ H ds vs → RepL T μ H (ds.drop n) (vs.drop n)
  | ds, vs, 0, h => by simpa using h
  | [], vs, n + 1, h => by rw [RepL] at h; subst h; simpa using RepL.nil
  | x :: ds, vs, n + 1, h => by
    rw [RepL] at h
    obtain ⟨w, r, rfl, h2, h3⟩ := h
    simpa using RepL.drop n h3
theorem RepL.take {T : Tb} {μ : List Addr} {H : Hp} : ∀ {ds : List D} {vs : List V} (n : Nat), RepL T μ H ds vs → RepL T μ H (ds.take n) (vs.take n)
  | ds, vs, 0, h => by simpa using RepL.nil
  | [], vs, n + 1, h => by rw [RepL] at h; subst h; simpa using RepL.nil
  | x :: ds, vs, n + 1, h => by
    rw [RepL] at h
    obtain ⟨w, r, rfl, h2, h3⟩ := h
    exact RepL.cons h2 (RepL.take n h3)

/-- the store -/
def RepF (T : Tb) (μ : List Addr) (H : Hp) : List (Str × D) → List (Str × V) → Prop := Paired fun p q => p.1 = q.1 ∧ Rep T μ H p.2 q.2
def RepK (T : Tb) (μ : List Addr) (H : Hp) : List (Key × D) → List (Key × V) → Prop := Paired fun p q => p.1 = q.1 ∧ Rep T μ H p.2 q.2
def ObR (T : Tb) (μ : List Addr) (H : Hp) (a : Addr) : Ob → Prop
  | .lst ds => ∃ vs, H a = some (.lst vs) ∧ RepL T μ H ds vs
  | .dic kvs => ∃ vs, H a = some (.dK vs) ∧ RepK T μ H kvs vs
  | .ins c fs => ∃ dx vs, H a = some (.ins (T.ca c) dx vs) ∧ RepF T μ H fs vs
structure Rel (T : Tb) (μ : List Addr) (H : Hp) (σ : Sto) : Prop where
  len : μ.length = σ.length
  nd : μ.Nodup
  obs : ∀ (n : Nat) (o : Ob), σ[n]? = some o → ∃ a, μ[n]? = some a ∧ ObR T μ H a o
def ERep (T : Tb) (μ : List Addr) (H : Hp) (ρ : Ev) (st : St) : Prop := ρ.length = st.length ∧ ∀ (i : Nat) (d : D), ρ[i]? = some (some d) → ∃ v, st[i]? = some (some v) ∧ Rep T μ H d v
theorem ERep.mono {T : Tb} {μ μ' : List Addr} {H H' : Hp} {ρ : Ev} {st : St} (e : Ext μ H μ' H') (h : ERep T μ H ρ st) : ERep T μ' H' ρ st :=
  ⟨h.1, fun i d q => let ⟨v, h1, h2⟩ := h.2 i d q; ⟨v, h1, Rep.mono e d v h2⟩⟩
theorem ERep.set {T : Tb} {μ : List Addr} {H : Hp} {ρ : Ev} {st : St} {d : D} {v : V} (h : ERep T μ H ρ st) (i : Nat) (r : Rep T μ H d v) : ERep T μ H (ρ.set i (some d)) (st.set i (some v)) := by
  refine ⟨by simpa using h.1, fun j x q => ?_⟩
  rw [List.getElem?_set] at q
  by_cases hj : i = j
  · subst hj
    rw [if_pos rfl] at q
    split at q
    · rename_i hl
      cases q
      exact ⟨v, by rw [List.getElem?_set, if_pos rfl, if_pos (by rw [← h.1]; exact hl)], r⟩
    · cases q
  · rw [if_neg hj] at q
    obtain ⟨w, h1, h2⟩ := h.2 j x q
    exact ⟨w, by rw [List.getElem?_set, if_neg hj]; exact h1, h2⟩

/-! ### an exception that has left a callee; one that was made here -/
/-- it flies, whatever frame has noted it last -/
def FlyM (B : Heap) (l : List Env) (e : Addr) (cls a0 : Value) (h : Heap) : Prop := B.StaysIn h ∧ B.get? e = none ∧ h.FunFrames B l ∧ ∃ fl, h.TracedAtW B e cls a0 fl
structure Fly (P : Program) (w : World) (outer : List Env) (H : Hp) (s : Shared) (cls : Value) (H' : Hp) (e : Value) (s' : Shared) : Prop where
  ex : ∃ (ea : Addr) (a0 : Value) (B : Heap), e = .ref ea ∧ FlyM B outer ea cls a0 s'.heap ∧ H' ea = none ∧ s.heap.get? ea = none ∧
    (∀ b o, H' b = some o → ∃ ob, B.get? b = some ob) ∧ (∀ b o, s.heap.get? b = some o → H b = none → b ∉ frs outer → B.get? b = some o) ∧ (∀ b o, s.heap.get? b = some o → b ∉ frs outer → ∃ o', B.get? b = some o')
  os : s'.os = s.os
  bare : AllBare s'.gens
  un : Un (frs outer) [] H H' s.heap s'.heap
  hok : HOk P w H' s'.heap
def CXE (P : Program) (w : World) : CXT := fun outer H s E e s' => ∃ cls H', Fly P w outer H s cls H' e s' ∧ E cls none H'
structure Thr (X : Cx) (st : St) (cls : Value) (H' : Hp) : Prop where
  fly : ∀ (pins : List (Addr × Obj)) (H : Hp) (s : Shared) (e : Value) (s' : Shared), Inv X pins st H s → Fly X.prog X.w X.stack H s cls H' e s' → X.xe e s'
  made : ∀ (pins : List (Addr × Obj)) (s : Shared) (ea : Addr) (h' : Heap) (args : List Value), Inv X pins st H' s → Heap.MadeExcOf s.heap h' ea cls args → X.xe (.ref ea) { s with heap := h' }
abbrev XE (X : Cx) (st : St) : XK := fun cls _ H' => Thr X st cls H'

/-! ### what is wanted behind an outcome -/
def Post {α γ : Type} (T : Tb) (E : XK) (R : List Addr → Hp → α → γ → Prop) (μ : List Addr) (H : Hp) (o : Out α) (Q : γ → Hp → Prop) : Prop := match o with
  | .ok a σ => ∀ μ' g H', Ext μ H μ' H' → Rel T μ' H' σ → R μ' H' a g → Q g H'
  | .ex x σ => ∀ μ' H', Ext μ H μ' H' → Rel T μ' H' σ → E (T.cv x) none H'
  | .bad => False
theorem Post.mono {α γ : Type} {T : Tb} {E : XK} {R : List Addr → Hp → α → γ → Prop} {μ μ1 : List Addr} {H H1 : Hp} {o : Out α} {Q : γ → Hp → Prop} (e : Ext μ H μ1 H1) (h : Post T E R μ H o Q) : Post T E R μ1 H1 o Q := by
  cases o with
  | ok a σ => exact fun μ' g H' e' r q => h μ' g H' (e.trans e') r q
  | ex x σ => exact fun μ' H' e' r => h μ' H' (e.trans e') r
  | bad => exact h
theorem Post.imp {α γ : Type} {T : Tb} {E : XK} {R : List Addr → Hp → α → γ → Prop} {μ : List Addr} {H : Hp} {o : Out α} {Q Q' : γ → Hp → Prop} (h : Post T E R μ H o Q) (k : ∀ g H', Q g H' → Q' g H') : Post T E R μ H o Q' := by
  cases o with
  | ok a σ => exact fun μ' g H' e' r q => k _ _ (h μ' g H' e' r q)
  | ex x σ => exact h
  | bad => exact h
/-- a step, then the rest -/
theorem Post.bind {α β γ δ : Type} {T : Tb} {E : XK} {R : List Addr → Hp → α → γ → Prop} {R' : List Addr → Hp → β → δ → Prop} {μ : List Addr} {H : Hp} {m : M α} {k : α → M β} {σ : Sto} {Q : δ → Hp → Prop} {Q1 : γ → Hp → Prop}
    (h : Post T E R' μ H (bnd m k σ) Q) (f : ∀ a σ1 μ1 g H1, m σ = .ok a σ1 → Ext μ H μ1 H1 → Rel T μ1 H1 σ1 → R μ1 H1 a g → Post T E R' μ1 H1 (k a σ1) Q → Q1 g H1) : Post T E R μ H (m σ) Q1 := by
  unfold bnd at h
  cases e : m σ with
  | ok a σ1 =>
    rw [e] at h
    exact fun μ' g H' e' r q => f a σ1 μ' g H' e e' r q (h.mono e')
  | ex x σ1 => rw [e] at h; exact h
  | bad => rw [e] at h; exact h
theorem Post.here {T : Tb} {E : XK} {α γ : Type} {R : List Addr → Hp → α → γ → Prop} {μ : List Addr} {H : Hp} {d : α} {σ : Sto} {g : γ} {Q : γ → Hp → Prop} (h : Post T E R μ H (.ok d σ) Q) (r : Rel T μ H σ) (p : R μ H d g) : Q g H := h μ g H (Ext.refl _ _) r p

/-! ### the readings -/
section
variable (T : Tb) (X : Cx)
def tF (f : Ev → M D) : TE := fun st H Q => ∃ μ ρ σ, ERep T μ H ρ st ∧ Rel T μ H σ ∧ Post T (XE X st) (Rep T) μ H (f ρ σ) Q
def RBool : List Addr → Hp → Bool → Bool → Prop := fun _ _ a b => b = a
def tT (f : Ev → M Bool) : TT := fun st H Q => ∃ μ ρ σ, ERep T μ H ρ st ∧ Rel T μ H σ ∧ Post T (XE X st) RBool μ H (f ρ σ) Q
def tL (f : Ev → M (List D)) : TA := fun st H Q => ∃ μ ρ σ, ERep T μ H ρ st ∧ Rel T μ H σ ∧ Post T (XE X st) (RepL T) μ H (f ρ σ) Q
/-- the ends of a statement -/
inductive Gl2 where
  | nx (st : St) | rt (v : V) | bk (st : St) | ct (st : St) | xc (st : St) (cls : Value)
def RFl (T : Tb) (μ : List Addr) (H : Hp) : Fl → Gl2 → Prop
  | .nx ρ, .nx st => ERep T μ H ρ st
  | .rt d, .rt v => Rep T μ H d v
  | .bk ρ, .bk st => ERep T μ H ρ st
  | .ct ρ, .ct st => ERep T μ H ρ st
  | .xc ρ x, .xc st cls => ERep T μ H ρ st ∧ cls = T.cv x
  | _, _ => False
def EndQ (X : Cx) (D : Ends) : Gl2 → Hp → Prop
  | .nx st, H => D.nx st H
  | .rt v, H => D.rt v H
  | .bk st, H => D.bk st H
  | .ct st, H => D.ct st H
  | .xc st cls, H => Thr X st cls H
abbrev EN : XK := fun _ _ _ => False
def tS (g : Ev → M Fl) : TS := fun D st H => ∃ μ ρ σ, ERep T μ H ρ st ∧ Rel T μ H σ ∧ Post T EN (RFl T) μ H (g ρ σ) (EndQ X D)
end
/-- an expression within a statement: its exception is the statement's end -/
def xs {α : Type} (ρ : Ev) (m : M α) (k : α → M Fl) : M Fl := fun σ => match m σ with
  | .ok a σ' => k a σ'
  | .ex x σ' => .ok (.xc ρ x) σ'
  | .bad => .bad
theorem Post.xs {α γ : Type} {T : Tb} {X : Cx} {D : Ends} {R : List Addr → Hp → α → γ → Prop} {μ : List Addr} {H : Hp} {ρ : Ev} {st : St} {m : M α} {k : α → M Fl} {σ : Sto} {Q1 : γ → Hp → Prop} (hE : ERep T μ H ρ st)
    (h : Post T EN (RFl T) μ H (L4.xs ρ m k σ) (EndQ X D)) (f : ∀ a σ1 μ1 g H1, m σ = .ok a σ1 → Ext μ H μ1 H1 → Rel T μ1 H1 σ1 → R μ1 H1 a g → Post T EN (RFl T) μ1 H1 (k a σ1) (EndQ X D) → Q1 g H1) : Post T (XE X st) R μ H (m σ) Q1 := by
  unfold L4.xs at h
  cases e : m σ with
  | ok a σ1 =>
    rw [e] at h
    exact fun μ' g H' e' r q => f a σ1 μ' g H' e e' r q (h.mono e')
  | ex x σ1 =>
    rw [e] at h
    intro μ' H' e' r
    exact h μ' (.xc st (T.cv x)) H' e' r ⟨hE.mono e', rfl⟩
  | bad => rw [e] at h; exact h
abbrev FE (T : Tb) (X : Cx) (e : Expr) (f : Ev → M D) : Prop := PE X e (tF T X f)
abbrev FT (T : Tb) (X : Cx) (e : Expr) (f : Ev → M Bool) : Prop := PT X e (tT T X f)
abbrev FW (T : Tb) (X : Cx) (e : Expr) (f : Ev → M Bool) : Prop := PW X e (tT T X f)
abbrev FA (T : Tb) (X : Cx) (es : List Expr) (f : Ev → M (List D)) : Prop := PA X es (tL T X f)
abbrev FS (T : Tb) (X : Cx) (st : Stmt) (g : Ev → M Fl) : Prop := PS X st (tS T X g)
abbrev FSs (T : Tb) (X : Cx) (st : List Stmt) (g : Ev → M Fl) : Prop := PSs X st (tS T X g)
end L4

namespace L4
open PySem PySem.Spec PyProof.Rows L2

def cap : Nat := 1000
theorem cap_le {n : Nat} (h : n ≤ cap) : n ≤ sizeLine := Nat.le_of_lt (small1000 h)
theorem cap_lt {n : Nat} (h : n < cap) : n < sizeLine := small1000 (Nat.le_of_lt h)

theorem nodup_at {α : Type} {l : List α} (h : l.Nodup) {i j : Nat} {a : α} (hi : l[i]? = some a) (hj : l[j]? = some a) : i = j := by
  obtain ⟨q1, q2⟩ := List.getElem?_eq_some_iff.mp hi
  obtain ⟨q3, q4⟩ := List.getElem?_eq_some_iff.mp hj
  have hp := List.pairwise_iff_getElem.mp h
  rcases Nat.lt_trichotomy i j with z | z | z
  · exact absurd (q2.trans q4.symm) (hp i j q1 q3 z)
  · exact z
  · exact absurd (q4.trans q2.symm) (hp j i q3 q1 z)
/-! ### the store keeps -/
section
variable {T : Tb} {μ μ' : List Addr} {H H' : Hp} {σ : Sto}
theorem paired_mono {α : Type} (e : Ext μ H μ' H') {xs : List (α × D)} {ys : List (α × V)} (h : Paired (fun (p : α × D) (q : α × V) => p.1 = q.1 ∧ Rep T μ H p.2 q.2) xs ys) :
    Paired (fun (p : α × D) (q : α × V) => p.1 = q.1 ∧ Rep T μ' H' p.2 q.2) xs ys := L2.Paired.mapP h fun p q z => ⟨z.1, Rep.mono e _ _ z.2⟩
theorem ObR.mono (e : Ext μ H μ' H') {a : Addr} (ha : H' a = H a) : ∀ {o : Ob}, ObR T μ H a o → ObR T μ' H' a o
  | .lst ds, ⟨vs, h, r⟩ => ⟨vs, ha.trans h, RepL.mono e _ _ r⟩
  | .dic kvs, ⟨vs, h, r⟩ => ⟨vs, ha.trans h, paired_mono e r⟩
  | .ins c fs, ⟨dx, vs, h, r⟩ => ⟨dx, vs, ha.trans h, paired_mono e r⟩
theorem ObR.some {a : Addr} : ∀ {o : Ob}, ObR T μ H a o → ∃ u, H a = Option.some u ∧ (∀ xs, u ≠ .tup xs) ∧ (∀ ob w, u ≠ .frz ob w)
  | .lst ds, ⟨vs, h, r⟩ => ⟨_, h, (fun _ z => by cases z), (fun _ _ z => by cases z)⟩
  | .dic kvs, ⟨vs, h, r⟩ => ⟨_, h, (fun _ z => by cases z), (fun _ _ z => by cases z)⟩
  | .ins c fs, ⟨dx, vs, h, r⟩ => ⟨_, h, (fun _ z => by cases z), (fun _ _ z => by cases z)⟩
theorem Rel.keep (r : Rel T μ H σ) (e : Ext μ H μ H') (k : ∀ a ∈ μ, H' a = H a) : Rel T μ H' σ :=
  ⟨r.len, r.nd, fun n o h => let ⟨a, h1, h2⟩ := r.obs n o h; ⟨a, h1, h2.mono e (k a (List.mem_of_getElem? h1))⟩⟩
theorem Rel.mem (r : Rel T μ H σ) {a : Addr} (h : a ∈ μ) : ∃ u, H a = some u ∧ (∀ xs, u ≠ .tup xs) ∧ (∀ ob w, u ≠ .frz ob w) := by
  obtain ⟨n, hn⟩ := List.getElem?_of_mem h
  have hl : n < σ.length := by rw [← r.len]; exact (List.getElem?_eq_some_iff.mp hn).1
  obtain ⟨a', h1, h2⟩ := r.obs n σ[n] (by simp [hl])
  rw [hn] at h1; cases h1
  exact h2.some
/-- a new thing that is not of the store -/
theorem ext_new {p : Addr} {o : HO} (hp : H p = none) : Ext μ H μ (upd H p o) :=
  ⟨⟨[], by simp⟩, fun q xs h => by rw [upd_ne (ne_of_none h hp)]; exact h, fun q ob u h => by rw [upd_ne (ne_of_none h hp)]; exact h, fun q ob h n => ⟨by rw [upd_ne (ne_of_none h hp)]; exact h, n⟩⟩
theorem Rel.fresh (r : Rel T μ H σ) {p : Addr} {o : HO} (hp : H p = none) : Rel T μ (upd H p o) σ :=
  r.keep (ext_new hp) fun a ha => by obtain ⟨u, h, _⟩ := r.mem ha; rw [upd_ne (ne_of_none h hp)]
/-- a new thing of the store -/
theorem ext_push {p : Addr} {o : HO} (hp : H p = none) : Ext μ H (μ ++ [p]) (upd H p o) :=
  ⟨⟨[p], rfl⟩, (ext_new (μ := μ) hp).tup, (ext_new (μ := μ) hp).frz, fun q ob h n => ⟨((ext_new (μ := μ) hp).keep q ob h n).1, fun z => (List.mem_append.mp z).elim n fun z => ne_of_none h hp (by simpa using z)⟩⟩
theorem Rel.push (r : Rel T μ H σ) {p : Addr} {o : HO} {ob : Ob} (hp : H p = none) (ho : ObR T (μ ++ [p]) (upd H p o) p ob) : Rel T (μ ++ [p]) (upd H p o) (σ ++ [ob]) := by
  refine ⟨by simp [r.len], ?_, fun n x h => ?_⟩
  · rw [List.nodup_append]
    refine ⟨r.nd, by simp, fun a ha b hb e => ?_⟩
    have eb : b = p := by simpa using hb
    subst eb; subst e
    obtain ⟨u, h, _⟩ := r.mem ha
    rw [hp] at h; cases h
  · by_cases hn : n < σ.length
    · rw [List.getElem?_append_left hn] at h
      obtain ⟨a, h1, h2⟩ := r.obs n x h
      obtain ⟨u, hu, _⟩ := h2.some
      exact ⟨a, by rw [List.getElem?_append_left (by rw [r.len]; exact hn)]; exact h1, h2.mono (ext_push hp) (upd_ne (ne_of_none hu hp))⟩
    · rw [List.getElem?_append_right (by omega)] at h
      have e0 : n - σ.length = 0 := by
        have := (List.getElem?_eq_some_iff.mp h).1
        simp at this; omega
      rw [e0] at h
      simp at h; subst h
      have en : n = μ.length := by rw [r.len]; omega
      subst en
      exact ⟨p, by simp, ho⟩
theorem rep_push {p : Addr} {o : HO} (r : Rel T μ H σ) : Rep T (μ ++ [p]) (upd H p o) (.ref σ.length) (.ref p) := by
  rw [Rep]; exact ⟨p, rfl, by rw [← r.len]; simp⟩
/-- a thing of the store is written -/
theorem ext_write {a : Addr} {u o : HO} (hm : a ∈ μ) (ha : H a = some u) (h1 : ∀ xs, u ≠ .tup xs) (h2 : ∀ ob w, u ≠ .frz ob w) : Ext μ H μ (upd H a o) :=
  ⟨⟨[], by simp⟩, fun q xs h => by rw [upd_ne (ne_of h ha (fun z => h1 xs z.symm))]; exact h, fun q ob w h => by rw [upd_ne (ne_of h ha (fun z => h2 ob w z.symm))]; exact h, fun q ob h n => ⟨by rw [upd_ne (fun z => n (by rw [z]; exact hm))]; exact h, n⟩⟩
theorem Rel.write (r : Rel T μ H σ) {n : Nat} {a : Addr} {o : HO} {ob : Ob} (hn : μ[n]? = some a) (ho : ObR T μ (upd H a o) a ob) : Ext μ H μ (upd H a o) ∧ Rel T μ (upd H a o) (σ.set n ob) := by
  obtain ⟨u, hu, h1, h2⟩ := r.mem (List.mem_of_getElem? hn)
  have e : Ext μ H μ (upd H a o) := ext_write (List.mem_of_getElem? hn) hu h1 h2
  refine ⟨e, by simp [r.len], r.nd, fun m x h => ?_⟩
  rw [List.getElem?_set] at h
  by_cases hm : n = m
  · subst hm
    rw [if_pos rfl] at h
    split at h
    · cases h
      exact ⟨a, hn, ho⟩
    · cases h
  · rw [if_neg hm] at h
    obtain ⟨b, h3, h4⟩ := r.obs m x h
    refine ⟨b, h3, h4.mono e (upd_ne fun z => hm ?_)⟩
    subst z
    exact nodup_at r.nd hn h3
theorem Rel.at (r : Rel T μ H σ) {n : Nat} {v : V} {o : Ob} (h : Rep T μ H (.ref n) v) (e : σ[n]? = some o) : ∃ a, v = .ref a ∧ μ[n]? = some a ∧ ObR T μ H a o := by
  rw [Rep] at h
  obtain ⟨a, rfl, ha⟩ := h
  obtain ⟨a', h1, h2⟩ := r.obs n o e
  rw [ha] at h1; cases h1
  exact ⟨a, rfl, ha, h2⟩
end

/-! ### expressions -/
def eVar (i : Nat) : Ev → M D := fun ρ σ => match ρ[i]? with
  | some (some d) => .ok d σ
  | _ => .bad
def eC (d : D) : Ev → M D := fun _ => ret d
def binK (o : D → D → M D) (m : M D) (x : D) : M D := bnd m (o x)
def eBin (o : D → D → M D) (a b : Ev → M D) : Ev → M D := fun ρ => bnd (a ρ) (binK o (b ρ))
def eUn (o : D → M D) (a : Ev → M D) : Ev → M D := fun ρ => bnd (a ρ) o
def tst (d : D) : M Bool := match d with
  | .bl b => ret b
  | _ => bad
def ifK {α : Type} (p q : M α) (c : Bool) : M α := if c = true then p else q
def notK (c : Bool) : M Bool := ret (!c)
def testK {α : Type} (k : Bool → M α) (d : D) : M α := bnd (tst d) k
def eT (f : Ev → M D) : Ev → M Bool := fun ρ => bnd (f ρ) tst
def bAnd (a b : Ev → M Bool) : Ev → M Bool := fun ρ => bnd (a ρ) (ifK (b ρ) (ret false))
def bOr (a b : Ev → M Bool) : Ev → M Bool := fun ρ => bnd (a ρ) (ifK (ret true) (b ρ))
def bNot (a : Ev → M Bool) : Ev → M Bool := fun ρ => bnd (a ρ) notK
def eAnd (a b : Ev → M D) : Ev → M D := fun ρ => bnd (a ρ) (testK (ifK (b ρ) (ret (.bl false))))
def eOr (a b : Ev → M D) : Ev → M D := fun ρ => bnd (a ρ) (testK (ifK (ret (.bl true)) (b ρ)))
def nboxK (c : Bool) : M D := ret (.bl (!c))
def eNot (a : Ev → M D) : Ev → M D := fun ρ => bnd (a ρ) (testK nboxK)
def eIf (t : Ev → M Bool) (a b : Ev → M D) : Ev → M D := fun ρ => bnd (t ρ) (ifK (a ρ) (b ρ))
def aNil : Ev → M (List D) := fun _ => ret []
def consK (x : D) (xs : List D) : M (List D) := ret (x :: xs)
def aConsK (m : M (List D)) (x : D) : M (List D) := bnd m (consK x)
def aCons (e : Ev → M D) (r : Ev → M (List D)) : Ev → M (List D) := fun ρ => bnd (e ρ) (aConsK (r ρ))
def tupK (ds : List D) : M D := if ds.length ≤ cap then ret (.tup ds) else bad
def eTup (a : Ev → M (List D)) : Ev → M D := fun ρ => bnd (a ρ) tupK
def mkLst (ds : List D) : M D := fun σ => .ok (.ref σ.length) (σ ++ [.lst ds])
def lstK (ds : List D) : M D := if ds.length ≤ cap then mkLst ds else bad
def eLst (a : Ev → M (List D)) : Ev → M D := fun ρ => bnd (a ρ) lstK
/-- a list that nobody changes -/
def lvK (ds : List D) : M D := if ds.length ≤ cap then ret (.lst ds) else bad
def eLv (a : Ev → M (List D)) : Ev → M D := fun ρ => bnd (a ρ) lvK

def SndOp (T : Tb) (r : R2) (o : D → D → M D) : Prop := ∀ (E : XK) μ H σ x y v u Q, Rel T μ H σ → Rep T μ H x v → Rep T μ H y u → Post T E (Rep T) μ H (o x y σ) Q → r v u H Q
def SndCall (T : Tb) (r : List V → Hp → VK → Prop) (o : List D → M D) : Prop := ∀ (E : XK) μ H σ xs vs Q, Rel T μ H σ → RepL T μ H xs vs → Post T E (Rep T) μ H (o xs σ) Q → r vs H Q

section
variable {T : Tb} {X : Cx} {a b c : Expr} {fa fb : Ev → M D} {ta tb : Ev → M Bool} {pos : Pos}
theorem fe_var (i : Nat) {x : Str} (hN : X.N[i]? = some x := by rfl) (hv : Vis X.env.scope x := by first | exact Or.inl rfl | exact Or.inr (Or.inl rfl) | exact Or.inr (Or.inr rfl)) (hd : (x == ("__debug__" : Str)) = false := by decide)
    (hcd : (x == ("__classdict__" : Str)) = false := by decide) : FE T X (.Name x pos) (eVar i) := by
  intro pins s st H Q I h
  obtain ⟨μ, ρ, σ, he, hr, hp⟩ := h
  refine pe_var hN hv hd hcd pins s st H Q I ?_
  unfold eVar at hp
  cases e : ρ[i]? with
  | none => rw [e] at hp; exact hp.elim
  | some o =>
    cases o with
    | none => rw [e] at hp; exact hp.elim
    | some d =>
      rw [e] at hp
      obtain ⟨v, h1, h2⟩ := he.2 i d e
      exact ⟨v, h1, hp.here hr h2⟩
theorem fe_const {e : Expr} {v : V} {d : D} (h : PE X e (tC v)) (r : ∀ μ H, Rep T μ H d v) : FE T X e (eC d) := by
  intro pins s st H Q I hq
  obtain ⟨μ, ρ, σ, he, hr, hp⟩ := hq
  exact h pins s st H Q I (Post.here hp hr (r _ _))
theorem fe_int {i : Int} {j} : FE T X (.Constant (.int i) j pos) (eC (.int i)) := fe_const pe_int fun _ _ => by rw [Rep]
theorem fe_bl {i : Bool} {j} : FE T X (.Constant (.bool i) j pos) (eC (.bl i)) := fe_const pe_bl fun _ _ => by rw [Rep]
theorem fe_non {j} : FE T X (.Constant .none j pos) (eC .non) := fe_const pe_non fun _ _ => by rw [Rep]
theorem fe_str {i : Str} {j} : FE T X (.Constant (.str i) j pos) (eC (.str i)) := fe_const pe_str fun _ _ => by rw [Rep]
theorem fe_globI {x : Str} {u : Value} {i : Int} (hg : Gl X x) (hm : X.mg x = some u) (r : RelV (.int i) u) (hd : (x == ("__debug__" : Str)) = false := by decide) : FE T X (.Name x pos) (eC (.int i)) := fe_const (pe_glob hg hm r hd) fun _ _ => by rw [Rep]
/-- two expressions, then an operation -/
theorem two {r : R2} {o : D → D → M D} (hs : SndOp T r o) {st : St} {H : Hp} {Q : VK} (h : tF T X (eBin o fa fb) st H Q) : tOp r (tF T X fa) (tF T X fb) st H Q := by
  obtain ⟨μ, ρ, σ, he, hr, hp⟩ := h
  exact ⟨μ, ρ, σ, he, hr, hp.bind fun x σ1 μ1 v H1 _ e1 r1 p1 q1 => ⟨μ1, ρ, σ1, he.mono e1, r1, q1.bind fun y σ2 μ2 u H2 _ e2 r2 p2 q2 => hs _ μ2 H2 σ2 x y v u Q r2 (Rep.mono e2 _ _ p1) p2 q2⟩⟩
theorem fe_op {op : Operator} {r : R2} {o : D → D → M D} (ho : OpR X (binaryOp op) r) (hs : SndOp T r o) (ha : FE T X a fa) (hb : FE T X b fb) : FE T X (.BinOp a op b pos) (eBin o fa fb) :=
  fun pins s st H Q I h => pe_op ho ha hb pins s st H Q I (two hs h)
theorem fe_cmp {op : CmpOp} {r : R2} {o : D → D → M D} (ho : OpR X (compareOp op) r) (hs : SndOp T r o) (ha : FE T X a fa) (hb : FE T X b fb) (hm : behindInMarks op b = false) : FE T X (.Compare a [op] [b] pos) (eBin o fa fb) :=
  fun pins s st H Q I h => pe_cmpR ho ha hb hm pins s st H Q I (two hs h)
theorem fe_ix {r : R2} {o : D → D → M D} (ho : IxR X r) (hs : SndOp T r o) (ha : FE T X a fa) (hb : FE T X b fb) (hp : PlainIx b) : FE T X (.Subscript a b pos) (eBin o fa fb) :=
  fun pins s st H Q I h => pe_ix ho ha hb hp pins s st H Q I (two hs h)
/-- tests -/
theorem tst_bl {E : XK} {d : D} {σ : Sto} {μ : List Addr} {H : Hp} {v : V} {β δ : Type} {R' : List Addr → Hp → β → δ → Prop} {k : Bool → M β} {Q : δ → Hp → Prop} (r : Rep T μ H d v) (h : Post T E R' μ H (bnd (tst d) k σ) Q) : ∃ c, d = .bl c ∧ v = .bl c ∧ Post T E R' μ H (k c σ) Q := by
  cases d with
  | bl c => rw [Rep] at r; exact ⟨c, rfl, r, h⟩
  | _ => exact h.elim
theorem tst_bl1 {E : XK} {d : D} {σ : Sto} {μ : List Addr} {H : Hp} {v : V} {Q : Bool → Hp → Prop} (r : Rep T μ H d v) (h : Post T E RBool μ H (tst d σ) Q) : ∃ c, v = .bl c ∧ Post T E RBool μ H (.ok c σ) Q := by
  cases d with
  | bl c => rw [Rep] at r; exact ⟨c, r, h⟩
  | _ => exact h.elim
theorem ft_cmp {op : CmpOp} {r : R2} {o : D → D → M D} (ho : OpR X (compareOp op) r) (hs : SndOp T r o) (ha : FE T X a fa) (hb : FE T X b fb) (hm : behindInMarks op b = false) : FT T X (.Compare a [op] [b] pos) (eT (eBin o fa fb)) := by
  intro pins s st H Q I h
  refine pt_cmpR ho ha hb hm pins s st H Q I ?_
  refine two (o := o) hs ?_
  obtain ⟨μ, ρ, σ, he, hr, hp⟩ := h
  refine ⟨μ, ρ, σ, he, hr, hp.bind fun d σ1 μ1 v H1 _ e1 r1 p1 q1 => ?_⟩
  obtain ⟨k, ev, q⟩ := tst_bl1 p1 q1
  exact ⟨k, ev, q.here r1 rfl⟩
theorem ft_val {e : Expr} {f : Ev → M D} (h : FE T X e f) (he : ∀ whole, isTrue e X.env whole = (do let v ← whole; standAt e.pos; holding [v] (truthy v)) := by intro _; rfl) : FT T X e (eT f) := by
  intro pins s st H Q I hw
  refine pt_val h he pins s st H Q I ?_
  obtain ⟨μ, ρ, σ, hE, hr, hp⟩ := hw
  refine ⟨μ, ρ, σ, hE, hr, hp.bind fun d σ1 μ1 v H1 _ e1 r1 p1 q1 => ?_⟩
  obtain ⟨k, ev, q⟩ := tst_bl1 p1 q1
  exact ⟨k, ev, q.here r1 rfl⟩
theorem ft_not (h : FT T X a ta) : FT T X (.UnaryOp .Not a pos) (bNot ta) := by
  intro pins s st H Q I hw
  refine pt_not h pins s st H Q I ?_
  obtain ⟨μ, ρ, σ, hE, hr, hp⟩ := hw
  exact ⟨μ, ρ, σ, hE, hr, hp.bind fun c σ1 μ1 v H1 _ e1 r1 p1 q1 => by cases p1; exact q1.here r1 rfl⟩
variable {rest : List Expr}
theorem fw_and1 (h : FT T X a ta) : FW T X (.BoolOp .And [a] pos) ta := pw_and1 h
theorem fw_or1 (h : FT T X a ta) : FW T X (.BoolOp .Or [a] pos) ta := pw_or1 h
theorem fw_and (h : FT T X a ta) (hb : FW T X (.BoolOp .And (b :: rest) pos) tb) : FW T X (.BoolOp .And (a :: b :: rest) pos) (bAnd ta tb) := by
  intro wh pins s st H Q I hw
  refine pw_and h hb wh pins s st H Q I ?_
  obtain ⟨μ, ρ, σ, hE, hr, hp⟩ := hw
  refine ⟨μ, ρ, σ, hE, hr, hp.bind fun c σ1 μ1 v H1 _ e1 r1 p1 q1 => ?_⟩
  cases p1
  cases c with
  | true => unfold ifK at q1; rw [if_pos rfl] at q1 ⊢; exact ⟨μ1, ρ, σ1, hE.mono e1, r1, q1⟩
  | false => unfold ifK at q1; rw [if_neg Bool.false_ne_true] at q1 ⊢; exact q1.here r1 rfl
theorem fw_or (h : FT T X a ta) (hb : FW T X (.BoolOp .Or (b :: rest) pos) tb) : FW T X (.BoolOp .Or (a :: b :: rest) pos) (bOr ta tb) := by
  intro wh pins s st H Q I hw
  refine pw_or h hb wh pins s st H Q I ?_
  obtain ⟨μ, ρ, σ, hE, hr, hp⟩ := hw
  refine ⟨μ, ρ, σ, hE, hr, hp.bind fun c σ1 μ1 v H1 _ e1 r1 p1 q1 => ?_⟩
  cases p1
  cases c with
  | true => unfold ifK at q1; rw [if_pos rfl] at q1 ⊢; exact q1.here r1 rfl
  | false => unfold ifK at q1; rw [if_neg Bool.false_ne_true] at q1 ⊢; exact ⟨μ1, ρ, σ1, hE.mono e1, r1, q1⟩
theorem fe_one {op} (h : FE T X a fa) : FE T X (.BoolOp op [a] pos) fa := pe_one h
theorem fe_and (h : FE T X a fa) (hb : FE T X (.BoolOp .And (b :: rest) pos) fb) : FE T X (.BoolOp .And (a :: b :: rest) pos) (eAnd fa fb) := by
  intro pins s st H Q I hw
  refine pe_and h hb pins s st H Q I ?_
  obtain ⟨μ, ρ, σ, hE, hr, hp⟩ := hw
  refine ⟨μ, ρ, σ, hE, hr, hp.bind fun d σ1 μ1 v H1 _ e1 r1 p1 q1 => ?_⟩
  obtain ⟨c, rfl, ev, q⟩ := tst_bl p1 q1
  refine ⟨c, ev, ?_⟩
  cases c with
  | true => unfold ifK at q; rw [if_pos rfl] at q ⊢; exact ⟨μ1, ρ, σ1, hE.mono e1, r1, q⟩
  | false => unfold ifK at q; rw [if_neg Bool.false_ne_true] at q ⊢; exact Post.here q r1 (by rw [Rep])
theorem fe_or (h : FE T X a fa) (hb : FE T X (.BoolOp .Or (b :: rest) pos) fb) : FE T X (.BoolOp .Or (a :: b :: rest) pos) (eOr fa fb) := by
  intro pins s st H Q I hw
  refine pe_or h hb pins s st H Q I ?_
  obtain ⟨μ, ρ, σ, hE, hr, hp⟩ := hw
  refine ⟨μ, ρ, σ, hE, hr, hp.bind fun d σ1 μ1 v H1 _ e1 r1 p1 q1 => ?_⟩
  obtain ⟨c, rfl, ev, q⟩ := tst_bl p1 q1
  refine ⟨c, ev, ?_⟩
  cases c with
  | true => unfold ifK at q; rw [if_pos rfl] at q ⊢; exact Post.here q r1 (by rw [Rep])
  | false => unfold ifK at q; rw [if_neg Bool.false_ne_true] at q ⊢; exact ⟨μ1, ρ, σ1, hE.mono e1, r1, q⟩
theorem fe_not (h : FE T X a fa) : FE T X (.UnaryOp .Not a pos) (eNot fa) := by
  intro pins s st H Q I hw
  refine pe_not h pins s st H Q I ?_
  obtain ⟨μ, ρ, σ, hE, hr, hp⟩ := hw
  refine ⟨μ, ρ, σ, hE, hr, hp.bind fun d σ1 μ1 v H1 _ e1 r1 p1 q1 => ?_⟩
  obtain ⟨c, rfl, ev, q⟩ := tst_bl p1 q1
  exact ⟨c, ev, Post.here q r1 (by rw [Rep])⟩
theorem fe_ifExp (hc : FT T X c ta) (ha : FE T X a fa) (hb : FE T X b fb) : FE T X (.IfExp c a b pos) (eIf ta fa fb) := by
  intro pins s st H Q I hw
  refine pe_ifExp hc ha hb pins s st H Q I ?_
  obtain ⟨μ, ρ, σ, hE, hr, hp⟩ := hw
  refine ⟨μ, ρ, σ, hE, hr, hp.bind fun d σ1 μ1 v H1 _ e1 r1 p1 q1 => ?_⟩
  cases p1
  cases d with
  | true => unfold ifK at q1; rw [if_pos rfl] at q1 ⊢; exact ⟨μ1, ρ, σ1, hE.mono e1, r1, q1⟩
  | false => unfold ifK at q1; rw [if_neg Bool.false_ne_true] at q1 ⊢; exact ⟨μ1, ρ, σ1, hE.mono e1, r1, q1⟩
variable {e : Expr} {es : List Expr} {fe : Ev → M D} {fs : Ev → M (List D)}
theorem fa_nil : FA T X [] aNil := by
  intro pos pins s st H Q I hw
  refine pa_nil pos pins s st H Q I ?_
  obtain ⟨μ, ρ, σ, hE, hr, hp⟩ := hw
  exact Post.here hp hr RepL.nil
theorem fa_cons (ha : FE T X e fe) (hr : FA T X es fs) (hs : starEach (e :: es) X.env = (false, eval e X.env) :: starEach es X.env := by rfl) : FA T X (e :: es) (aCons fe fs) := by
  intro pos pins s st H Q I hw
  refine pa_cons ha hr hs pos pins s st H Q I ?_
  obtain ⟨μ, ρ, σ, hE, hr, hp⟩ := hw
  exact ⟨μ, ρ, σ, hE, hr, hp.bind fun d σ1 μ1 v H1 _ e1 r1 p1 q1 => ⟨μ1, ρ, σ1, hE.mono e1, r1, q1.bind fun ds σ2 μ2 vs H2 _ e2 r2 p2 q2 => Post.here q2 r2 (RepL.cons (Rep.mono e2 _ _ p1) p2)⟩⟩
theorem new_tup {E : XK} {μ : List Addr} {H : Hp} {σ : Sto} {ds : List D} {vs : List V} {Q : VK} {p : Addr} (h : Post T E (Rep T) μ H (.ok (.tup ds) σ) Q) (r : Rel T μ H σ) (q : RepL T μ H ds vs) (hp : H p = none) : Q (.ref p) (upd H p (.tup vs)) :=
  h μ (.ref p) _ (ext_new hp) (r.fresh hp) (by rw [Rep]; exact ⟨p, vs, rfl, upd_same, RepL.mono (ext_new hp) _ _ q⟩)
theorem new_lst {E : XK} {μ : List Addr} {H : Hp} {σ : Sto} {ds : List D} {vs : List V} {Q : VK} {p : Addr} (h : Post T E (Rep T) μ H (mkLst ds σ) Q) (r : Rel T μ H σ) (q : RepL T μ H ds vs) (hp : H p = none) : Q (.ref p) (upd H p (.lst vs)) :=
  h (μ ++ [p]) (.ref p) _ (ext_push hp) (r.push hp ⟨vs, upd_same, RepL.mono (ext_push hp) _ _ q⟩) (rep_push r)
theorem fe_tup {x1} (h : FA T X es fs) : FE T X (.Tuple es x1 pos) (eTup fs) := by
  intro pins s st H Q I hw
  refine pe_tup h pins s st H Q I ?_
  obtain ⟨μ, ρ, σ, hE, hr, hp⟩ := hw
  refine ⟨μ, ρ, σ, hE, hr, hp.bind fun ds σ1 μ1 vs H1 _ e1 r1 p1 q1 => ?_⟩
  unfold tupK at q1
  by_cases hl : ds.length ≤ cap
  · rw [if_pos hl] at q1
    exact ⟨by rw [← p1.length]; exact cap_le hl, fun p hp => new_tup q1 r1 p1 hp⟩
  · rw [if_neg hl] at q1; exact q1.elim
theorem fe_lst (h : FA T X es fs) : FE T X (.List es pos) (eLst fs) := by
  intro pins s st H Q I hw
  refine pe_lst h pins s st H Q I ?_
  obtain ⟨μ, ρ, σ, hE, hr, hp⟩ := hw
  refine ⟨μ, ρ, σ, hE, hr, hp.bind fun ds σ1 μ1 vs H1 _ e1 r1 p1 q1 => ?_⟩
  unfold lstK at q1
  by_cases hl : ds.length ≤ cap
  · rw [if_pos hl] at q1
    exact ⟨by rw [← p1.length]; exact cap_le hl, fun p hp => new_lst q1 r1 p1 hp⟩
  · rw [if_neg hl] at q1; exact q1.elim
theorem new_lv {E : XK} {μ : List Addr} {H : Hp} {σ : Sto} {ds : List D} {vs : List V} {Q : VK} {p : Addr} (h : Post T E (Rep T) μ H (.ok (.lst ds) σ) Q) (r : Rel T μ H σ) (q : RepL T μ H ds vs) (hp : H p = none) : Q (.ref p) (upd H p (.lst vs)) :=
  h μ (.ref p) _ (ext_new hp) (r.fresh hp) (by rw [Rep]; exact ⟨p, vs, rfl, fun hm => (by obtain ⟨u, hu, _⟩ := r.mem hm; rw [hp] at hu; cases hu), upd_same, RepL.mono (ext_new hp) _ _ q⟩)
theorem fe_lv (h : FA T X es fs) : FE T X (.List es pos) (eLv fs) := by
  intro pins s st H Q I hw
  refine pe_lst h pins s st H Q I ?_
  obtain ⟨μ, ρ, σ, hE, hr, hp⟩ := hw
  refine ⟨μ, ρ, σ, hE, hr, hp.bind fun ds σ1 μ1 vs H1 _ e1 r1 p1 q1 => ?_⟩
  unfold lvK at q1
  by_cases hl : ds.length ≤ cap
  · rw [if_pos hl] at q1
    exact ⟨by rw [← p1.length]; exact cap_le hl, fun p hp => new_lv q1 r1 p1 hp⟩
  · rw [if_neg hl] at q1; exact q1.elim
end
end L4

namespace L4
open PySem PySem.Spec PyProof.Rows L2

/-! ### ints -/
def oI (g : Int → Int → Int) : D → D → M D
  | .int i, .int j => ret (.int (g i j))
  | _, _ => bad
def oB (g : Int → Int → Bool) : D → D → M D
  | .int i, .int j => ret (.bl (g i j))
  | _, _ => bad
def oIC (C : Int → Int → Bool) (g : Int → Int → Int) : D → D → M D
  | .int i, .int j => if C i j = true then ret (.int (g i j)) else bad
  | _, _ => bad
noncomputable def cMul (i j : Int) : Bool := hide ((decide (-(2 ^ 64) < i) && decide (i < 2 ^ 64)) || (decide (-(2 ^ 64) < j) && decide (j < 2 ^ 64)))
noncomputable def cDiv (_ j : Int) : Bool := hide (decide (0 < j) && decide (j < 1073741824))
noncomputable def cMod (_ j : Int) : Bool := hide (decide (0 < j))
noncomputable def cPow (i j : Int) : Bool := hide (decide (0 ≤ j) && decide (j ≤ 1000000) && decide (i.natAbs < 2 ^ 64))
noncomputable def cShr (_ j : Int) : Bool := hide (decide (0 ≤ j))
abbrev oSub := oI (fun i j => i - j)
noncomputable abbrev oMul := oIC cMul (fun i j => i * j)
noncomputable abbrev oDiv := oIC cDiv (fun i j => i / j)
noncomputable abbrev oMod := oIC cMod (fun i j => i % j)
noncomputable abbrev oPow := oIC cPow (fun i j => i ^ j.toNat)
noncomputable abbrev oShr := oIC cShr (fun i j => i / 2 ^ j.toNat)
abbrev oBand := oI (fun i j => Builtin.bitAnd i j)
abbrev oLt := oB (fun i j => decide (i < j))
abbrev oLe := oB (fun i j => decide (i ≤ j))
abbrev oGt := oB (fun i j => decide (j < i))
def oNeg : D → M D
  | .int i => ret (.int (-i))
  | _ => bad

/-- an operation read by its data -/
def rD (T : Tb) (o : D → D → M D) : R2 := fun v u H Q => ∃ (E : XK) (μ : List Addr) (σ : Sto) (x y : D), Rel T μ H σ ∧ Rep T μ H x v ∧ Rep T μ H y u ∧ Post T E (Rep T) μ H (o x y σ) Q
theorem sndD {T : Tb} {o : D → D → M D} : SndOp T (rD T o) o := fun E μ H σ x y v u Q r p q h => ⟨E, μ, σ, x, y, r, p, q, h⟩

section
variable {T : Tb} {X : Cx}
theorem int_of {μ : List Addr} {H : Hp} {i : Int} {v : V} (h : Rep T μ H (.int i) v) : v = .int i := by simpa [Rep] using h
theorem snd_I {g : Int → Int → Int} : SndOp T (rI0 fun i j => .int (g i j)) (oI g) := by
  intro E μ H σ x y v u Q r p q h
  cases x with
  | int i =>
    cases y with
    | int j => exact ⟨i, j, int_of p, int_of q, Post.here h r (by rw [Rep])⟩
    | _ => exact h.elim
  | _ => exact h.elim
theorem snd_B {g : Int → Int → Bool} : SndOp T (rI0 fun i j => .bl (g i j)) (oB g) := by
  intro E μ H σ x y v u Q r p q h
  cases x with
  | int i =>
    cases y with
    | int j => exact ⟨i, j, int_of p, int_of q, Post.here h r (by rw [Rep])⟩
    | _ => exact h.elim
  | _ => exact h.elim
theorem snd_IC {C : Int → Int → Bool} {C' : Int → Int → Prop} {g : Int → Int → Int} (hC : ∀ i j, C i j = true → C' i j) : SndOp T (rI C' fun i j => .int (g i j)) (oIC C g) := by
  intro E μ H σ x y v u Q r p q h
  cases x with
  | int i =>
    cases y with
    | int j =>
      by_cases hc : C i j = true
      · have h' : Post T E (Rep T) μ H (ret (.int (g i j)) σ) Q := by
          have e : oIC C g (.int i) (.int j) = ret (.int (g i j)) := by show (if C i j = true then _ else _) = _; rw [if_pos hc]
          rw [e] at h; exact h
        exact ⟨i, j, int_of p, int_of q, hC i j hc, Post.here h' r (by rw [Rep])⟩
      · have e : oIC C g (.int i) (.int j) = bad := by show (if C i j = true then _ else _) = _; rw [if_neg hc]
        rw [e] at h; exact h.elim
    | _ => exact h.elim
  | _ => exact h.elim
theorem snd_sub : SndOp T (rI0 fun i j => .int (i - j)) oSub := snd_I
theorem snd_mul : SndOp T (rI CMul fun i j => .int (i * j)) oMul := snd_IC fun i j h => by
  simp only [cMul, hide_eq, Bool.or_eq_true, Bool.and_eq_true, decide_eq_true_eq] at h; exact h
theorem snd_div : SndOp T (rI CDiv fun i j => .int (i / j)) oDiv := snd_IC fun i j h => by
  simp only [cDiv, hide_eq, Bool.and_eq_true, decide_eq_true_eq] at h; exact h
theorem snd_mod : SndOp T (rI (fun _ j => 0 < j) fun i j => .int (i % j)) oMod := snd_IC fun i j h => by
  simp only [cMod, hide_eq, decide_eq_true_eq] at h; exact h
theorem snd_pow : SndOp T (rI CPow fun i j => .int (i ^ j.toNat)) oPow := snd_IC fun i j h => by
  simp only [cPow, hide_eq, Bool.and_eq_true, decide_eq_true_eq] at h; exact ⟨h.1.1, h.1.2, h.2⟩
theorem snd_shr : SndOp T (rI (fun _ j => 0 ≤ j) fun i j => .int (i / 2 ^ j.toNat)) oShr := snd_IC fun i j h => by
  simp only [cShr, hide_eq, decide_eq_true_eq] at h; exact h
theorem snd_band : SndOp T (rI0 fun i j => .int (Builtin.bitAnd i j)) oBand := snd_I
theorem snd_lt : SndOp T (rI0 fun i j => .bl (decide (i < j))) oLt := snd_B
theorem snd_le : SndOp T (rI0 fun i j => .bl (decide (i ≤ j))) oLe := snd_B
theorem snd_gt : SndOp T (rI0 fun i j => .bl (decide (j < i))) oGt := snd_B
end

/-! ### equality -/
def sc : D → Option V
  | .non => some .non
  | .bl b => some (.bl b)
  | .int i => some (.int i)
  | .str x => some (.str x)
  | _ => none
def lstAt (σ : Sto) (n : Nat) : Option (List D) := match σ[n]? with
  | some (.lst xs) => some xs
  | _ => none
theorem lstAt_some {σ : Sto} {n : Nat} {xs : List D} (h : lstAt σ n = some xs) : σ[n]? = some (.lst xs) := by
  unfold lstAt at h
  cases e : σ[n]? with
  | none => rw [e] at h; cases h
  | some o => rw [e] at h; cases o <;> simp at h; subst h; rfl
/-- what a thing is, for == -/
inductive Kd where
  | s (v : V) | t (xs : List D) | l (xs : List D) | o
def kd (σ : Sto) : D → Kd
  | .non => .s .non
  | .bl b => .s (.bl b)
  | .int i => .s (.int i)
  | .str x => .s (.str x)
  | .tup xs => .t xs
  | .lst xs => .l xs
  | .ref n => match lstAt σ n with
    | some xs => .l xs
    | none => .o
  | _ => .o
def eqL (f : D → D → Option Bool) : List D → List D → Option Bool
  | [], [] => some true
  | [], _ :: _ => some false
  | _ :: _, [] => some false
  | x :: xs, y :: ys => match f x y, eqL f xs ys with
    | some b, some c => some (b && c)
    | _, _ => none
/-- by kinds, the parts of a sequence by f -/
def eqK (f : D → D → Option Bool) : Kd → Kd → Option Bool
  | .s a, .s b => some (eqV a b)
  | .t xs, .t ys => eqL f xs ys
  | .l xs, .l ys => eqL f xs ys
  | .s _, .t _ => some false
  | .t _, .s _ => some false
  | .s _, .l _ => some false
  | .l _, .s _ => some false
  | .t _, .l _ => some false
  | .l _, .t _ => some false
  | _, _ => none
def eqD (σ : Sto) : Nat → D → D → Option Bool
  | 0, x, y => eqK (fun _ _ => none) (kd σ x) (kd σ y)
  | n + 1, x, y => eqK (eqD σ n) (kd σ x) (kd σ y)
def eAt (f : D → D → Option Bool) (xs ys : List D) (j : Nat) : Bool := match xs[j]?, ys[j]? with
  | some a, some b => (f a b).getD false
  | _, _ => false
theorem eqL_spec (f : D → D → Option Bool) : ∀ (xs ys : List D) (b : Bool), eqL f xs ys = some b →
    (∀ (j : Nat) (a c : D), xs[j]? = some a → ys[j]? = some c → ∃ k, f a c = some k) ∧ b = ((List.range (min xs.length ys.length)).all (eAt f xs ys) && xs.length == ys.length)
  | [], [], b, h => by simp [eqL] at h; subst h; simp
  | [], y :: ys, b, h => by simp [eqL] at h; subst h; simp
  | x :: xs, [], b, h => by simp [eqL] at h; subst h; simp
  | x :: xs, y :: ys, b, h => by
    unfold eqL at h
    cases e1 : f x y with
    | none => rw [e1] at h; cases h
    | some b1 =>
      cases e2 : eqL f xs ys with
      | none => rw [e1, e2] at h; cases h
      | some b2 =>
        rw [e1, e2] at h
        cases h
        obtain ⟨h1, h2⟩ := eqL_spec f xs ys b2 e2
        refine ⟨fun j a c ha hc => ?_, ?_⟩
        · cases j with
          | zero => simp at ha hc; subst ha; subst hc; exact ⟨b1, e1⟩
          | succ j => exact h1 j a c (by simpa using ha) (by simpa using hc)
        · have e3 : min (x :: xs).length (y :: ys).length = min xs.length ys.length + 1 := by simp [Nat.succ_min_succ]
          have e4 : ∀ j, eAt f (x :: xs) (y :: ys) (j + 1) = eAt f xs ys j := fun j => by simp [eAt]
          have e5 : eAt f (x :: xs) (y :: ys) 0 = b1 := by simp [eAt, e1]
          rw [e3, List.range_succ_eq_map, List.all_cons, List.all_map, e5, h2]
          have e6 : (eAt f (x :: xs) (y :: ys) ∘ Nat.succ) = eAt f xs ys := funext fun j => e4 j
          have e7 : ((x :: xs).length == (y :: ys).length) = (xs.length == ys.length) := by simp
          rw [e6, e7, Bool.and_assoc]
section
variable {T : Tb} {μ : List Addr} {H : Hp} {σ : Sto}
theorem Rel.lst (r : Rel T μ H σ) {n : Nat} {v : V} {xs : List D} (h : Rep T μ H (.ref n) v) (e : lstAt σ n = some xs) : ∃ a vs, v = .ref a ∧ μ[n]? = some a ∧ H a = some (.lst vs) ∧ RepL T μ H xs vs := by
  obtain ⟨a, rfl, h1, vs, h2, h3⟩ := r.at h (lstAt_some e)
  exact ⟨a, vs, rfl, h1, h2, h3⟩
theorem sc_rep {d : D} {v a : V} (h : Rep T μ H d v) (e : sc d = some a) : v = a := by
  cases d <;> simp [sc] at e <;> subst e <;> simpa [Rep] using h
theorem sc_flat {d : D} {a : V} (e : sc d = some a) : flatV a = true := by
  cases d <;> simp [sc] at e <;> subst e <;> rfl
theorem eqV_same {a : V} (h : flatV a = true) : eqV a a = true := by cases a <;> simp [flatV, eqV] at h ⊢
/-- how each kind lies -/
theorem kd_rep (r : Rel T μ H σ) {d : D} {v : V} (h : Rep T μ H d v) : match kd σ d with
    | .s a => v = a ∧ flatV a = true
    | .t xs => ∃ p vs, v = .ref p ∧ H p = some (.tup vs) ∧ RepL T μ H xs vs
    | .l xs => ∃ p vs, v = .ref p ∧ H p = some (.lst vs) ∧ RepL T μ H xs vs
    | .o => True := by
  cases d with
  | non => exact ⟨by simpa [Rep] using h, rfl⟩
  | bl b => exact ⟨by simpa [Rep] using h, rfl⟩
  | int b => exact ⟨by simpa [Rep] using h, rfl⟩
  | str b => exact ⟨by simpa [Rep] using h, rfl⟩
  | tup xs => rw [Rep] at h; exact h
  | lst xs => rw [Rep] at h; obtain ⟨a, vs, h1, _, h2, h3⟩ := h; exact ⟨a, vs, h1, h2, h3⟩
  | ref n =>
    unfold kd
    dsimp only
    cases e : lstAt σ n with
    | none => trivial
    | some xs => obtain ⟨a, vs, h1, _, h2, h3⟩ := r.lst h e; exact ⟨a, vs, h1, h2, h3⟩
  | _ => trivial
theorem eqL_same {f : D → D → Option Bool} (hf : ∀ (x y : D) (v : V) (b : Bool), Rep T μ H x v → Rep T μ H y v → f x y = some b → b = true) : ∀ (xs ys : List D) (vs : List V) (b : Bool), RepL T μ H xs vs → RepL T μ H ys vs → eqL f xs ys = some b → b = true
  | [], ys, vs, b, r1, r2, h => by
    rw [RepL] at r1; subst r1
    cases ys with
    | nil => simp [eqL] at h; exact h
    | cons y ys => rw [RepL] at r2; obtain ⟨_, _, z, _⟩ := r2; cases z
  | x :: xs, ys, vs, b, r1, r2, h => by
    rw [RepL] at r1; obtain ⟨v, r, rfl, p1, q1⟩ := r1
    cases ys with
    | nil => rw [RepL] at r2; cases r2
    | cons y ys =>
      rw [RepL] at r2; obtain ⟨v', r', z, p2, q2⟩ := r2
      cases z
      unfold eqL at h
      cases e1 : f x y with
      | none => rw [e1] at h; cases h
      | some b1 =>
        cases e2 : eqL f xs ys with
        | none => rw [e1, e2] at h; cases h
        | some b2 =>
          rw [e1, e2] at h; cases h
          rw [hf x y v b1 p1 p2 e1, eqL_same hf xs ys r b2 q1 q2 e2]; rfl
theorem eqK_same (r : Rel T μ H σ) {f : D → D → Option Bool} (hf : ∀ (x y : D) (v : V) (b : Bool), Rep T μ H x v → Rep T μ H y v → f x y = some b → b = true) {x y : D} {v : V} {b : Bool} (hx : Rep T μ H x v) (hy : Rep T μ H y v) (h : eqK f (kd σ x) (kd σ y) = some b) : b = true := by
  have kx := kd_rep r hx
  have ky := kd_rep r hy
  generalize kd σ x = k1 at h kx
  generalize kd σ y = k2 at h ky
  cases k1 with
  | s a =>
    obtain ⟨rfl, fa⟩ := kx
    cases k2 with
    | s c => obtain ⟨rfl, _⟩ := ky; cases h; exact eqV_same fa
    | t xs => obtain ⟨p, vs, rfl, _⟩ := ky; simp [flatV] at fa
    | l xs => obtain ⟨p, vs, rfl, _⟩ := ky; simp [flatV] at fa
    | o => cases h
  | t xs =>
    obtain ⟨p, vs, rfl, h1, r1⟩ := kx
    cases k2 with
    | s c => obtain ⟨e, fa⟩ := ky; rw [← e] at fa; simp [flatV] at fa
    | t ys =>
      obtain ⟨q, ws, e, h2, r2⟩ := ky
      cases e; rw [h1] at h2; cases h2
      exact eqL_same hf xs ys vs b r1 r2 h
    | l ys => obtain ⟨q, ws, e, h2, r2⟩ := ky; cases e; rw [h1] at h2; cases h2
    | o => cases h
  | l xs =>
    obtain ⟨p, vs, rfl, h1, r1⟩ := kx
    cases k2 with
    | s c => obtain ⟨e, fa⟩ := ky; rw [← e] at fa; simp [flatV] at fa
    | t ys => obtain ⟨q, ws, e, h2, r2⟩ := ky; cases e; rw [h1] at h2; cases h2
    | l ys =>
      obtain ⟨q, ws, e, h2, r2⟩ := ky
      cases e; rw [h1] at h2; cases h2
      exact eqL_same hf xs ys vs b r1 r2 h
    | o => cases h
  | o => cases h
/-- data at one value are alike -/
theorem eqD_same (r : Rel T μ H σ) : ∀ (n : Nat) (x y : D) (v : V) (b : Bool), Rep T μ H x v → Rep T μ H y v → eqD σ n x y = some b → b = true
  | 0, x, y, v, b, hx, hy, h => eqK_same r (fun _ _ _ _ _ _ z => by cases z) hx hy h
  | n + 1, x, y, v, b, hx, hy, h => eqK_same r (fun x y v b a1 a2 a3 => eqD_same r n x y v b a1 a2 a3) hx hy h
end
section
variable {T : Tb} {X : Cx} {pins : List (Addr × Obj)} {st : St} {μ : List Addr} {H : Hp} {s : Shared} {σ : Sto}
theorem sc_tup_eqAt {A : Around} {a : V} {u : Value} {p : Addr} {its : Array Value} (fa : flatV a = true) (r : RelV a u) (hp : s.heap.IsTuple p its) (hu : A.units < cLine) : SeqAt.EqAt A s u (.ref p) false ∧ SeqAt.EqAt A s (.ref p) u false ∧ SeqAt.RcAt A s u (.ref p) false ∧ SeqAt.RcAt A s (.ref p) u false ∧ SeqAt.RcNeAt A s u (.ref p) true ∧ SeqAt.RcNeAt A s (.ref p) u true := by
  cases a with
  | non => cases r; exact ⟨.none_tuple hp hu, .tuple_none hp hu, .none_tuple hp hu, .tuple_none hp hu, .none_tuple hp hu, .tuple_none hp hu⟩
  | bl b => cases r; exact ⟨.bool_tuple b hp hu, .tuple_bool b hp hu, .bool_tuple b hp hu, .tuple_bool b hp hu, .bool_tuple b hp hu, .tuple_bool b hp hu⟩
  | int b => obtain ⟨t, rfl⟩ := r; exact ⟨.int_tuple b t hp hu, .tuple_int b t hp hu, .int_tuple b t hp hu, .tuple_int b t hp hu, .int_tuple b t hp hu, .tuple_int b t hp hu⟩
  | str b => obtain ⟨t, rfl⟩ := r; exact ⟨.str_tuple b t hp hu, .tuple_str b t hp hu, .str_tuple b t hp hu, .tuple_str b t hp hu, .str_tuple b t hp hu, .tuple_str b t hp hu⟩
  | _ => simp [flatV] at fa
theorem sc_list_at {A : Around} {a : V} {u : Value} {p : Addr} {its : Array Value} (fa : flatV a = true) (r : RelV a u) (hp : s.heap.IsList p its) (hu : A.units < cLine) : SeqAt.RcAt A s u (.ref p) false ∧ SeqAt.RcAt A s (.ref p) u false ∧ SeqAt.RcNeAt A s u (.ref p) true ∧ SeqAt.RcNeAt A s (.ref p) u true := by
  cases a with
  | non => cases r; exact ⟨.none_list hp hu, .list_none hp hu, .none_list hp hu, .list_none hp hu⟩
  | bl b => cases r; exact ⟨.bool_list b hp hu, .list_bool b hp hu, .bool_list b hp hu, .list_bool b hp hu⟩
  | int b => obtain ⟨t, rfl⟩ := r; exact ⟨.int_list b t hp hu, .list_int b t hp hu, .int_list b t hp hu, .list_int b t hp hu⟩
  | str b => obtain ⟨t, rfl⟩ := r; exact ⟨.str_list b t hp hu, .list_str b t hp hu, .str_list b t hp hu, .list_str b t hp hu⟩
  | _ => simp [flatV] at fa
theorem sc_list_eqAt {A : Around} {a : V} {u : Value} {p : Addr} {its : Array Value} (fa : flatV a = true) (r : RelV a u) (hp : s.heap.IsList p its) (hu : A.units < cLine) : SeqAt.EqAt A s u (.ref p) false := by
  cases a with
  | non => cases r; exact .none_list hp hu
  | bl b => cases r; exact .bool_list b hp hu
  | int b => obtain ⟨t, rfl⟩ := r; exact .int_list b t hp hu
  | str b => obtain ⟨t, rfl⟩ := r; exact .str_list b t hp hu
  | _ => simp [flatV] at fa
theorem sc_list_eqAt2 {A : Around} {a : V} {u : Value} {p : Addr} {its : Array Value} (fa : flatV a = true) (r : RelV a u) (hp : s.heap.IsList p its) (hu : A.units < cLine) : SeqAt.EqAt A s (.ref p) u false := by
  cases a with
  | non => cases r; exact .list_none hp hu
  | bl b => cases r; exact .list_bool b hp hu
  | int b => obtain ⟨t, rfl⟩ := r; exact .list_int b t hp hu
  | str b => obtain ⟨t, rfl⟩ := r; exact .list_str b t hp hu
  | _ => simp [flatV] at fa
theorem rc_sc {A : Around} {a b : V} {u w : Value} (ra : RelV a u) (rb : RelV b w) (fa : flatV a = true) (fb : flatV b = true) : SeqAt.RcAt A s u w (eqV a b) ∧ SeqAt.RcNeAt A s u w (!eqV a b) := by
  cases a with
  | non =>
    cases ra
    cases b with
    | non => cases rb; exact ⟨.none_none, .none_none⟩
    | bl y => cases rb; exact ⟨.none_bool y, .none_bool y⟩
    | int y => obtain ⟨t, rfl⟩ := rb; exact ⟨.none_int y t, .none_int y t⟩
    | str y => obtain ⟨t, rfl⟩ := rb; exact ⟨.none_str y t, .none_str y t⟩
    | _ => simp [flatV] at fb
  | bl x =>
    cases ra
    cases b with
    | non => cases rb; exact ⟨.bool_none x, .bool_none x⟩
    | bl y => cases rb; exact ⟨.bool_bool x y, .bool_bool x y⟩
    | int y => obtain ⟨t, rfl⟩ := rb; exact ⟨.bool_int x y t, .bool_int x y t⟩
    | str y => obtain ⟨t, rfl⟩ := rb; exact ⟨.bool_str x y t, .bool_str x y t⟩
    | _ => simp [flatV] at fb
  | int x =>
    obtain ⟨t', rfl⟩ := ra
    cases b with
    | non => cases rb; exact ⟨.int_none x t', .int_none x t'⟩
    | bl y => cases rb; exact ⟨.int_bool x t' y, .int_bool x t' y⟩
    | int y => obtain ⟨t, rfl⟩ := rb; exact ⟨.int_int x t' y t, .int_int x t' y t⟩
    | str y => obtain ⟨t, rfl⟩ := rb; exact ⟨.int_str x t' y t, .int_str x t' y t⟩
    | _ => simp [flatV] at fb
  | str x =>
    obtain ⟨t', rfl⟩ := ra
    cases b with
    | non => cases rb; exact ⟨.str_none x t', .str_none x t'⟩
    | bl y => cases rb; exact ⟨.str_bool x t' y, .str_bool x t' y⟩
    | int y => obtain ⟨t, rfl⟩ := rb; exact ⟨.str_int x t' y t, .str_int x t' y t⟩
    | str y => obtain ⟨t, rfl⟩ := rb; exact ⟨.str_str x t' y t, .str_str x t' y t⟩
    | _ => simp [flatV] at fb
  | _ => simp [flatV] at fa
theorem vals_get {xs : List V} {us : List Value} {i : Nat} {u : Value} (r : Vals xs us) (h : us[i]? = some u) : ∃ x, xs[i]? = some x ∧ RelV x u := by
  have hl := r.length
  have hi := (List.getElem?_eq_some_iff.mp h).1
  obtain ⟨u', h1, h2⟩ := r.get (i := i) (x := xs[i]'(by omega)) (by simp)
  rw [h] at h1; cases h1
  exact ⟨_, by simp, h2⟩
theorem repl_get {ds : List D} {vs : List V} {i : Nat} {v : V} (r : RepL T μ H ds vs) (h : vs[i]? = some v) : ∃ d, ds[i]? = some d ∧ Rep T μ H d v := by
  have hl := r.length
  have hi := (List.getElem?_eq_some_iff.mp h).1
  obtain ⟨v', h1, h2⟩ := r.get (i := i) (d := ds[i]'(by omega)) (by simp)
  rw [h] at h1; cases h1
  exact ⟨_, by simp, h2⟩
/-- the items of two sequences, by an answer for each pair -/
theorem items_at {A : Around} {f : D → D → Option Bool} (hf : ∀ (x y : D) (v w : V) (v' w' : Value) (b : Bool), Rep T μ H x v → Rep T μ H y w → RelV v v' → RelV w w' → f x y = some b → SeqAt.EqAt A s v' w' b)
    {xs ys : List D} {vs ws : List V} {us zs : List Value} {b : Bool} (r1 : RepL T μ H xs vs) (r2 : RepL T μ H ys ws) (q1 : Vals vs us) (q2 : Vals ws zs) (h : eqL f xs ys = some b) :
    (∀ j (h1 : j < us.toArray.size) (h2 : j < zs.toArray.size), SeqAt.EqAt A s us.toArray[j] zs.toArray[j] (eAt f xs ys j)) ∧ b = ((List.range (min us.toArray.size zs.toArray.size)).all (eAt f xs ys) && us.toArray.size == zs.toArray.size) := by
  obtain ⟨h1, h2⟩ := eqL_spec f xs ys b h
  have l1 := r1.length
  have l2 := r2.length
  have l3 := q1.length
  have l4 := q2.length
  refine ⟨fun j g1 g2 => ?_, ?_⟩
  · obtain ⟨v, e1, rv⟩ := vals_get (i := j) (u := us.toArray[j]) q1 (by simp)
    obtain ⟨w, e2, rw'⟩ := vals_get (i := j) (u := zs.toArray[j]) q2 (by simp)
    obtain ⟨x, e3, p3⟩ := repl_get r1 e1
    obtain ⟨y, e4, p4⟩ := repl_get r2 e2
    obtain ⟨k, ek⟩ := h1 j x y e3 e4
    have e5 : eAt f xs ys j = k := by simp [eAt, e3, e4, ek]
    rw [e5]
    exact hf x y v w _ _ k p3 p4 rv rw' ek
  · simp only [List.size_toArray]
    rw [h2, l1, l2, l3, l4]
abbrev RcBoth (A : Around) (s : Shared) (v w : Value) (b : Bool) : Prop := SeqAt.RcAt A s v w b ∧ SeqAt.RcNeAt A s v w (!b)
/-- two kinds compared, the parts by f -/
theorem rcK {A : Around} (I : Inv X pins st H s) (r : Rel T μ H σ) (hu : A.units + 1 < cLine) {f : D → D → Option Bool}
    (hf : ∀ (x y : D) (v w : V) (v' w' : Value) (b : Bool), Rep T μ H x v → Rep T μ H y w → RelV v v' → RelV w w' → f x y = some b → SeqAt.EqAt A.in1 s v' w' b)
    {x y : D} {v w : V} {v' w' : Value} {b : Bool} (hx : Rep T μ H x v) (hy : Rep T μ H y w) (rv : RelV v v') (rw' : RelV w w') (h : eqK f (kd σ x) (kd σ y) = some b) : RcBoth A s v' w' b := by
  have hu0 : A.units < cLine := by omega
  have kx := kd_rep r hx
  have ky := kd_rep r hy
  generalize kd σ x = k1 at h kx
  generalize kd σ y = k2 at h ky
  cases k1 with
  | o => cases h
  | s a =>
    obtain ⟨rfl, fa⟩ := kx
    cases k2 with
    | o => cases h
    | s c => obtain ⟨rfl, fc⟩ := ky; cases h; exact rc_sc rv rw' fa fc
    | t ys =>
      obtain ⟨q, ws, rfl, h2, r2⟩ := ky
      cases h; cases rw'
      obtain ⟨its, _, hq, _⟩ := L2.Inv.tuple I (SqT.of (K := X.K) h2)
      obtain ⟨_, _, a1, a2, a3, a4⟩ := sc_tup_eqAt fa rv hq hu0
      exact ⟨a1, a3⟩
    | l ys =>
      obtain ⟨q, ws, rfl, h2, r2⟩ := ky
      cases h; cases rw'
      obtain ⟨its, _, pl, _⟩ := L2.Inv.list I (SqL.of (K := X.K) h2)
      obtain ⟨a1, a2, a3, a4⟩ := sc_list_at fa rv pl.isList hu0
      exact ⟨a1, a3⟩
  | t xs =>
    obtain ⟨p, vs, rfl, h1, r1⟩ := kx
    cases rv
    obtain ⟨its, q1, hp, _⟩ := L2.Inv.tuple I (SqT.of (K := X.K) h1)
    cases k2 with
    | o => cases h
    | s c =>
      obtain ⟨rfl, fc⟩ := ky; cases h
      obtain ⟨_, _, a1, a2, a3, a4⟩ := sc_tup_eqAt fc rw' hp hu0
      exact ⟨a2, a4⟩
    | t ys =>
      obtain ⟨q, ws, rfl, h2, r2⟩ := ky
      cases rw'
      obtain ⟨its2, q2, hq, _⟩ := L2.Inv.tuple I (SqT.of (K := X.K) h2)
      obtain ⟨g1, g2⟩ := items_at (A := A.in1) hf r1 r2 q1 q2 h
      rw [g2]
      exact ⟨.tuples hp hq (by omega) g1, .tuples hp hq (by omega) g1⟩
    | l ys =>
      obtain ⟨q, ws, rfl, h2, r2⟩ := ky
      cases h; cases rw'
      obtain ⟨its2, _, pl, _⟩ := L2.Inv.list I (SqL.of (K := X.K) h2)
      exact ⟨.tuple_list hp pl.isList hu0, .tuple_list hp pl.isList hu0⟩
  | l xs =>
    obtain ⟨p, vs, rfl, h1, r1⟩ := kx
    cases rv
    obtain ⟨its, q1, pl, _⟩ := L2.Inv.list I (SqL.of (K := X.K) h1)
    cases k2 with
    | o => cases h
    | s c =>
      obtain ⟨rfl, fc⟩ := ky; cases h
      obtain ⟨a1, a2, a3, a4⟩ := sc_list_at fc rw' pl.isList hu0
      exact ⟨a2, a4⟩
    | t ys =>
      obtain ⟨q, ws, rfl, h2, r2⟩ := ky
      cases h; cases rw'
      obtain ⟨its2, _, hq, _⟩ := L2.Inv.tuple I (SqT.of (K := X.K) h2)
      exact ⟨.list_tuple pl.isList hq hu0, .list_tuple pl.isList hq hu0⟩
    | l ys =>
      obtain ⟨q, ws, rfl, h2, r2⟩ := ky
      cases rw'
      obtain ⟨its2, q2, pl2, _⟩ := L2.Inv.list I (SqL.of (K := X.K) h2)
      obtain ⟨g1, g2⟩ := items_at (A := A.in1) hf r1 r2 q1 q2 h
      by_cases hz : its.toArray.size = its2.toArray.size
      · have e : b = (List.range its.toArray.size).all (eAt f xs ys) := by rw [g2, ← hz]; simp
        rw [e]
        exact ⟨.lists pl.isList pl2.isList hz (by omega) g1, .lists pl.isList pl2.isList hz (by omega) g1⟩
      · have e : b = false := by rw [g2, beq_eq_false_iff_ne.mpr hz, Bool.and_false]
        rw [e]
        exact ⟨.lists_lengths pl.isList pl2.isList (by simpa using hz) (by omega), .lists_lengths pl.isList pl2.isList (by simpa using hz) (by omega)⟩
/-- the same within a sequence -/
theorem eqK_at {A : Around} (I : Inv X pins st H s) (r : Rel T μ H σ) (hu : A.units + 1 < cLine) {f : D → D → Option Bool}
    (hf : ∀ (x y : D) (v w : V) (v' w' : Value) (b : Bool), Rep T μ H x v → Rep T μ H y w → RelV v v' → RelV w w' → f x y = some b → SeqAt.EqAt A.in1 s v' w' b)
    (hs : ∀ (x y : D) (v : V) (b : Bool), Rep T μ H x v → Rep T μ H y v → f x y = some b → b = true)
    {x y : D} {v w : V} {v' w' : Value} {b : Bool} (hx : Rep T μ H x v) (hy : Rep T μ H y w) (rv : RelV v v') (rw' : RelV w w') (h : eqK f (kd σ x) (kd σ y) = some b) : SeqAt.EqAt A s v' w' b := by
  have hu0 : A.units < cLine := by omega
  have rc := (rcK I r hu hf hx hy rv rw' h).1
  by_cases hvw : v = w
  · subst hvw
    have hb := eqK_same r hs hx hy h
    have kx := kd_rep r hx
    have ky := kd_rep r hy
    generalize kd σ x = k1 at h kx
    generalize kd σ y = k2 at h ky
    cases k1 with
    | o => cases h
    | s a =>
      obtain ⟨rfl, fa⟩ := kx
      cases k2 with
      | o => cases h
      | s c => obtain ⟨rfl, fc⟩ := ky; cases h; exact eqAt_V rv rw' fa fc
      | t ys => obtain ⟨q, ws, e, _⟩ := ky; rw [e] at fa; simp [flatV] at fa
      | l ys => obtain ⟨q, ws, e, _⟩ := ky; rw [e] at fa; simp [flatV] at fa
    | t xs =>
      obtain ⟨p, vs, rfl, _⟩ := kx
      cases rv; cases rw'
      rw [hb]; exact SeqAt.EqAt.same _
    | l xs =>
      obtain ⟨p, vs, rfl, _⟩ := kx
      cases rv; cases rw'
      rw [hb]; exact SeqAt.EqAt.same _
  · have kx := kd_rep r hx
    have ky := kd_rep r hy
    generalize kd σ x = k1 at h kx
    generalize kd σ y = k2 at h ky
    cases k1 with
    | o => cases h
    | s a =>
      obtain ⟨rfl, fa⟩ := kx
      cases k2 with
      | o => cases h
      | s c => obtain ⟨rfl, fc⟩ := ky; cases h; exact eqAt_V rv rw' fa fc
      | t ys =>
        obtain ⟨q, ws, rfl, h2, r2⟩ := ky
        cases h; cases rw'
        obtain ⟨its, _, hq, _⟩ := L2.Inv.tuple I (SqT.of (K := X.K) h2)
        exact (sc_tup_eqAt fa rv hq hu0).1
      | l ys =>
        obtain ⟨q, ws, rfl, h2, r2⟩ := ky
        cases h; cases rw'
        obtain ⟨its, _, pl, _⟩ := L2.Inv.list I (SqL.of (K := X.K) h2)
        exact sc_list_eqAt fa rv pl.isList hu0
    | t xs =>
      obtain ⟨p, vs, rfl, h1, r1⟩ := kx
      cases rv
      cases k2 with
      | o => cases h
      | s c =>
        obtain ⟨rfl, fc⟩ := ky; cases h
        obtain ⟨its, _, hp, _⟩ := L2.Inv.tuple I (SqT.of (K := X.K) h1)
        exact (sc_tup_eqAt fc rw' hp hu0).2.1
      | t ys => obtain ⟨q, ws, rfl, _⟩ := ky; cases rw'; exact .of_refs (fun e => hvw (by rw [e])) rc
      | l ys => obtain ⟨q, ws, rfl, _⟩ := ky; cases rw'; exact .of_refs (fun e => hvw (by rw [e])) rc
    | l xs =>
      obtain ⟨p, vs, rfl, h1, r1⟩ := kx
      cases rv
      cases k2 with
      | o => cases h
      | s c =>
        obtain ⟨rfl, fc⟩ := ky; cases h
        obtain ⟨its, _, pl, _⟩ := L2.Inv.list I (SqL.of (K := X.K) h1)
        exact sc_list_eqAt2 fc rw' pl.isList hu0
      | t ys => obtain ⟨q, ws, rfl, _⟩ := ky; cases rw'; exact .of_refs (fun e => hvw (by rw [e])) rc
      | l ys => obtain ⟨q, ws, rfl, _⟩ := ky; cases rw'; exact .of_refs (fun e => hvw (by rw [e])) rc
theorem eqD_at (I : Inv X pins st H s) (r : Rel T μ H σ) : ∀ (n : Nat) (A : Around) (x y : D) (v w : V) (v' w' : Value) (b : Bool), A.units + n + 1 < cLine → Rep T μ H x v → Rep T μ H y w → RelV v v' → RelV w w' → eqD σ n x y = some b → SeqAt.EqAt A s v' w' b
  | 0, A, x, y, v, w, v', w', b, hu, hx, hy, rv, rw', h => eqK_at I r (by omega) (fun _ _ _ _ _ _ _ _ _ _ _ z => by cases z) (fun _ _ _ _ _ _ z => by cases z) hx hy rv rw' h
  | n + 1, A, x, y, v, w, v', w', b, hu, hx, hy, rv, rw', h => eqK_at I r (by omega) (fun x y v w v' w' b a1 a2 a3 a4 a5 => eqD_at I r n A.in1 x y v w v' w' b (by show A.units + 1 + n + 1 < cLine; omega) a1 a2 a3 a4 a5) (fun x y v b a1 a2 a3 => eqD_same r n x y v b a1 a2 a3) hx hy rv rw' h
theorem rcD {A : Around} (I : Inv X pins st H s) (r : Rel T μ H σ) (n : Nat) (hu : A.units + n + 1 < cLine) {x y : D} {v w : V} {v' w' : Value} {b : Bool} (hx : Rep T μ H x v) (hy : Rep T μ H y w) (rv : RelV v v') (rw' : RelV w w') (h : eqD σ n x y = some b) : RcBoth A s v' w' b := by
  cases n with
  | zero => exact rcK I r (by omega) (fun _ _ _ _ _ _ _ _ _ _ _ z => by cases z) hx hy rv rw' h
  | succ n => exact rcK I r (by omega) (fun x y v w v' w' b a1 a2 a3 a4 a5 => eqD_at I r n A.in1 x y v w v' w' b (by show A.units + 1 + n + 1 < cLine; omega) a1 a2 a3 a4 a5) hx hy rv rw' h
end
end L4

namespace L4
open PySem PySem.Spec PyProof.Rows L2

/-! ### == and != -/
section
variable {T : Tb} {X : Cx} {pins : List (Addr × Obj)} {st : St} {μ : List Addr} {H : Hp} {s : Shared} {σ : Sto}
def oEq (x y : D) : M D := fun σ => match eqD σ 8 x y with
  | some b => .ok (.bl b) σ
  | none => .bad
def oNe (x y : D) : M D := fun σ => match eqD σ 8 x y with
  | some b => .ok (.bl (!b)) σ
  | none => .bad
theorem op_eqD (hu : X.A.units + 9 < cLine) : OpR X (compareOp .Eq) (rD T oEq) := by
  intro pins s st H v u v' u' Q I rv ru h
  obtain ⟨E, μ, σ, x, y, r, hx, hy, hp⟩ := h
  unfold oEq at hp
  cases e : eqD σ 8 x y with
  | none => rw [e] at hp; exact hp.elim
  | some b =>
    rw [e] at hp
    have := (rcD I r 8 (by omega) hx hy rv ru e).1 X.prog X.w X.xe (EP X pins st Q) ⟨.bl b, H, I, rfl, Post.here hp r (by rw [Rep])⟩
    exact this
theorem op_neD (hu : X.A.units + 9 < cLine) : OpR X (compareOp .NotEq) (rD T oNe) := by
  intro pins s st H v u v' u' Q I rv ru h
  obtain ⟨E, μ, σ, x, y, r, hx, hy, hp⟩ := h
  unfold oNe at hp
  cases e : eqD σ 8 x y with
  | none => rw [e] at hp; exact hp.elim
  | some b =>
    rw [e] at hp
    have := (rcD I r 8 (by omega) hx hy rv ru e).2 X.prog X.w X.xe (EP X pins st Q) ⟨.bl (!b), H, I, rfl, Post.here hp r (by rw [Rep])⟩
    exact this
/-- is None -/
def oIsN (x y : D) : M D := fun σ => match y with
  | .non => (match x with
    | .non => .ok (.bl true) σ
    | _ => .ok (.bl false) σ)
  | _ => .bad
def oNotN (x y : D) : M D := fun σ => match y with
  | .non => (match x with
    | .non => .ok (.bl false) σ
    | _ => .ok (.bl true) σ)
  | _ => .bad
theorem non_iff {x : D} {v : V} (h : Rep T μ H x v) : decide (v = .non) = (match x with | .non => true | _ => false) := by
  cases x with
  | non => rw [Rep] at h; subst h; rfl
  | tup ds => rw [Rep] at h; obtain ⟨p, _, rfl, _⟩ := h; simp
  | scr ds => rw [Rep] at h; obtain ⟨p, rfl, _⟩ := h; simp
  | ref ds => rw [Rep] at h; obtain ⟨p, rfl, _⟩ := h; simp
  | lst ds => rw [Rep] at h; obtain ⟨p, _, rfl, _⟩ := h; simp
  | dic ks ds => rw [Rep] at h; obtain ⟨p, _, rfl, _⟩ := h; simp
  | obj c ks ds => rw [Rep] at h; obtain ⟨p, _, _, rfl, _⟩ := h; simp
  | exn c => rw [Rep] at h; obtain ⟨p, rfl, _⟩ := h; simp
  | _ => rw [Rep] at h; subst h; simp
theorem snd_isN : SndOp T (fun x y H Q => y = .non ∧ Q (.bl (decide (x = .non))) H) oIsN := by
  intro E μ H σ x y v u Q r p q h
  cases y with
  | non =>
    refine ⟨by rw [Rep] at q; exact q, ?_⟩
    rw [non_iff p]
    cases x <;> exact Post.here h r (by rw [Rep])
  | _ => exact h.elim

/-! ### places -/
theorem atI_rep {ds : List D} {vs : List V} {k : Int} {d : D} (r : RepL T μ H ds vs) (h : atI ds k = some d) : ∃ v, atI vs k = some v ∧ Rep T μ H d v := by
  unfold atI at h ⊢
  rw [← r.length]
  cases e : ixN ds.length k with
  | none => rw [e] at h; cases h
  | some j => rw [e] at h; exact r.get h
theorem repl_ints : ∀ (ns : List Int), RepL T μ H (ns.map D.int) (ns.map V.int)
  | [] => RepL.nil
  | n :: ns => RepL.cons (by rw [Rep]) (repl_ints ns)
def seqOf (σ : Sto) : D → Option (List D)
  | .tup xs => some xs
  | .scr ns => some (ns.map D.int)
  | .ref n => lstAt σ n
  | .lst xs => some xs
  | _ => none
def oIx (x i : D) : M D := fun σ => match i with
  | .int k => (match seqOf σ x with
    | some xs => (match atI xs k with
      | some d => .ok d σ
      | none => .bad)
    | none => .bad)
  | _ => .bad
/-- a sequence read -/
theorem seq_rep (r : Rel T μ H σ) {x : D} {v : V} {xs : List D} (h : Rep T μ H x v) (e : seqOf σ x = some xs) : ∃ p vs, v = .ref p ∧ RepL T μ H xs vs ∧ (SqL T.K H p vs ∨ SqT T.K H p vs) := by
  cases x with
  | tup ds => cases e; rw [Rep] at h; obtain ⟨p, vs, rfl, h1, h2⟩ := h; exact ⟨p, vs, rfl, h2, .inr (SqT.of h1)⟩
  | scr ns => cases e; rw [Rep] at h; obtain ⟨p, rfl, h1⟩ := h; exact ⟨p, _, rfl, repl_ints ns, .inl h1.seq⟩
  | ref n => obtain ⟨a, vs, rfl, _, h1, h2⟩ := r.lst h e; exact ⟨a, vs, rfl, h2, .inl (SqL.of h1)⟩
  | lst ds => cases e; rw [Rep] at h; obtain ⟨p, vs, rfl, _, h1, h2⟩ := h; exact ⟨p, vs, rfl, h2, .inl (SqL.of h1)⟩
  | _ => cases e
theorem snd_ix (hK : T.K = X.K) : SndOp T (fun x y H Q => rIxL X.K x y H Q ∨ rIxT X.K x y H Q) oIx := by
  intro E μ H σ x y v u Q r p q h
  cases y with
  | int k =>
    unfold oIx at h
    cases e : seqOf σ x with
    | none => simp only [e] at h; exact h.elim
    | some xs =>
      simp only [e] at h
      cases e2 : atI xs k with
      | none => rw [e2] at h; exact h.elim
      | some d =>
        rw [e2] at h
        obtain ⟨a, vs, rfl, h1, h2⟩ := seq_rep r p e
        obtain ⟨w, h3, h4⟩ := atI_rep h1 e2
        rw [hK] at h2
        rcases h2 with h2 | h2
        · exact .inl ⟨a, vs, k, w, rfl, int_of q, h2, h3, Post.here h r h4⟩
        · exact .inr ⟨a, vs, k, w, rfl, int_of q, h2, h3, Post.here h r h4⟩
  | _ => exact h.elim
theorem ix_D : IxR X (fun x y H Q => rIxL X.K x y H Q ∨ rIxT X.K x y H Q) := ix_list.or ix_tup

/-! ### in -/
def isF (d : D) : Bool := (sc d).isSome
def eqF (x y : D) : Bool := match sc x, sc y with
  | some a, some b => eqV a b
  | _, _ => false
def oIn (neg : Bool) (x y : D) : M D := fun σ => match seqOf σ y with
  | some xs => if (isF x && xs.all isF) = true then .ok (.bl (if neg then !(xs.any fun z => eqF z x) else xs.any fun z => eqF z x)) σ else .bad
  | none => .bad
theorem flat_all : ∀ {ds : List D} {vs : List V}, RepL T μ H ds vs → ds.all isF = true → vs.all flatV = true
  | [], vs, h, _ => by rw [RepL] at h; subst h; rfl
  | d :: ds, vs, h, e => by
    rw [RepL] at h
    obtain ⟨v, r, rfl, h1, h2⟩ := h
    rw [List.all_cons, Bool.and_eq_true] at e ⊢
    obtain ⟨a, ea⟩ := Option.isSome_iff_exists.mp e.1
    exact ⟨by rw [sc_rep h1 ea]; exact sc_flat ea, flat_all h2 e.2⟩
theorem any_eqF {x : D} {a : V} (ex : sc x = some a) : ∀ {ds : List D} {vs : List V}, RepL T μ H ds vs → ds.all isF = true → (ds.any fun z => eqF z x) = vs.any fun y => eqV y a
  | [], vs, h, _ => by rw [RepL] at h; subst h; rfl
  | d :: ds, vs, h, e => by
    rw [RepL] at h
    obtain ⟨v, r, rfl, h1, h2⟩ := h
    rw [List.all_cons, Bool.and_eq_true] at e
    obtain ⟨c, ec⟩ := Option.isSome_iff_exists.mp e.1
    rw [List.any_cons, List.any_cons, any_eqF ex h2 e.2]
    have : eqF d x = eqV v a := by unfold eqF; rw [ec, ex, sc_rep h1 ec]
    rw [this]
theorem snd_in (hK : T.K = X.K) (neg : Bool) : SndOp T (rIn X.K neg) (oIn neg) := by
  intro E μ H σ x y v u Q r p q h
  unfold oIn at h
  cases e : seqOf σ y with
  | none => rw [e] at h; exact h.elim
  | some xs =>
    rw [e] at h
    by_cases hc : (isF x && xs.all isF) = true
    · simp only [hc, if_true] at h
      rw [Bool.and_eq_true] at hc
      obtain ⟨a, ea⟩ := Option.isSome_iff_exists.mp hc.1
      obtain ⟨b, vs, rfl, h1, h2⟩ := seq_rep r q e
      rw [hK] at h2
      refine ⟨b, vs, rfl, h2, by rw [sc_rep p ea]; exact sc_flat ea, flat_all h1 hc.2, ?_⟩
      have e3 : inV v vs = xs.any fun z => eqF z x := by unfold inV; rw [any_eqF ea h1 hc.2, sc_rep p ea]
      rw [e3]
      exact Post.here h r (by rw [Rep])
    · simp only [hc] at h; exact h.elim

/-! ### len, list, tuple, count, append -/
def oLen (xs : List D) : M D := fun σ => match xs with
  | [x] => (match seqOf σ x with
    | some ys => .ok (.int ys.length) σ
    | none => .bad)
  | _ => .bad
theorem snd_len (hK : T.K = X.K) : SndCall T (fun xs H Q => ∃ p ys, xs = [.ref p] ∧ (SqL X.K H p ys ∨ SqT X.K H p ys) ∧ Q (.int ys.length) H) oLen := by
  intro E μ H σ xs vs Q r p h
  match xs with
  | [] => exact h.elim
  | [x] =>
    rw [RepL] at p
    obtain ⟨v, w, rfl, p1, p2⟩ := p
    rw [RepL] at p2; subst p2
    unfold oLen at h
    cases e : seqOf σ x with
    | none => simp only [e] at h; exact h.elim
    | some ys =>
      simp only [e] at h
      obtain ⟨b, vs, rfl, h1, h2⟩ := seq_rep r p1 e
      rw [hK] at h2
      exact ⟨b, vs, rfl, h2, by rw [← h1.length]; exact Post.here h r (by rw [Rep])⟩
  | _ :: _ :: _ => exact h.elim
def oList (xs : List D) : M D := fun σ => match xs with
  | [x] => (match seqOf σ x with
    | some ys => mkLst ys σ
    | none => .bad)
  | _ => .bad
def oTuple (xs : List D) : M D := fun σ => match xs with
  | [x] => (match seqOf σ x with
    | some ys => .ok (.tup ys) σ
    | none => .bad)
  | _ => .bad
theorem snd_tuple (hK : T.K = X.K) : SndCall T (fun xs H Q => ∃ p ys, xs = [.ref p] ∧ ((SqL X.K H p ys ∧ ∀ l, H l = none → Q (.ref l) (upd H l (.tup ys))) ∨ (SqT X.K H p ys ∧ Q (.ref p) H))) oTuple := by
  intro E μ H σ xs vs Q r p h
  match xs with
  | [] => exact h.elim
  | [x] =>
    rw [RepL] at p
    obtain ⟨v, w, rfl, p1, p2⟩ := p
    rw [RepL] at p2; subst p2
    unfold oTuple at h
    cases e : seqOf σ x with
    | none => simp only [e] at h; exact h.elim
    | some ys =>
      simp only [e] at h
      cases x with
      | tup ds =>
        cases e
        have p0 := p1
        rw [Rep] at p1; obtain ⟨b, vs, rfl, h1, h2⟩ := p1
        exact ⟨b, vs, rfl, .inr ⟨SqT.of h1, Post.here h r p0⟩⟩
      | scr ns =>
        cases e
        rw [Rep] at p1; obtain ⟨b, rfl, h1⟩ := p1
        exact ⟨b, _, rfl, .inl ⟨by rw [← hK]; exact h1.seq, fun l hl => new_tup h r (repl_ints ns) hl⟩⟩
      | ref n =>
        obtain ⟨a, vs, rfl, _, h1, h2⟩ := r.lst p1 e
        exact ⟨a, vs, rfl, .inl ⟨SqL.of h1, fun l hl => new_tup h r h2 hl⟩⟩
      | lst ds =>
        cases e
        rw [Rep] at p1; obtain ⟨b, vs, rfl, _, h1, h2⟩ := p1
        exact ⟨b, vs, rfl, .inl ⟨SqL.of h1, fun l hl => new_tup h r h2 hl⟩⟩
      | _ => cases e
  | _ :: _ :: _ => exact h.elim
end

/-! ### calls of builtins -/
def eCall (o : List D → M D) (fs : Ev → M (List D)) : Ev → M D := fun ρ => bnd (fs ρ) o
section
variable {T : Tb} {X : Cx} {x : Str} {p pos : Pos} {e : Expr} {es : List Expr} {fs : Ev → M (List D)} {id ty : String} {r : List V → Hp → VK → Prop} {o : List D → M D}
theorem callD (hs : SndCall T r o) {st : St} {H : Hp} {Q : VK} (h : tF T X (eCall o fs) st H Q) : tCB r (tL T X fs) st H Q := by
  obtain ⟨μ, ρ, σ, he, hr, hp⟩ := h
  exact ⟨μ, ρ, σ, he, hr, hp.bind fun ds σ1 μ1 vs H1 _ e1 r1 p1 q1 => hs _ μ1 H1 σ1 ds vs Q r1 p1 q1⟩
theorem fe_callB (hc : CallR X (.builtin id) r) (hs : SndCall T r o) (hg : Gl X x) (hm : X.mg x = none) (hv : bootBuiltins x = some (.builtin id)) (ha : FA T X (e :: es) fs) (hn : x ≠ "__name__" := by decide) (hdb : (x == ("__debug__" : Str)) = false := by decide)
    (he : starEach (e :: es) X.env = (false, eval e X.env) :: starEach es X.env := by rfl) (hpl : (backTo pos (starEach es X.env)).any (·.1) = false := by rfl) : FE T X (.Call (.Name x p) (e :: es) [] pos) (eCall o fs) :=
  fun pins s st H Q I h => pe_callB hc hg hm hv ha hn hdb he hpl pins s st H Q I (callD hs h)
theorem fe_callTy (hc : CallR X (.type ty) r) (hs : SndCall T r o) (hg : Gl X x) (hm : X.mg x = none) (hv : bootBuiltins x = some (.type ty)) (ha : FA T X (e :: es) fs) (hn : x ≠ "__name__" := by decide) (hdb : (x == ("__debug__" : Str)) = false := by decide)
    (he : starEach (e :: es) X.env = (false, eval e X.env) :: starEach es X.env := by rfl) (hpl : (backTo pos (starEach es X.env)).any (·.1) = false := by rfl) : FE T X (.Call (.Name x p) (e :: es) [] pos) (eCall o fs) :=
  fun pins s st H Q I h => pe_callTy hc hg hm hv ha hn hdb he hpl pins s st H Q I (callD hs h)
end

/-! ### methods of lists -/
def lsOf (σ : Sto) : D → Option (List D)
  | .ref n => lstAt σ n
  | .lst xs => some xs
  | _ => none
theorem Rel.ls {T : Tb} {μ : List Addr} {H : Hp} {σ : Sto} (r : Rel T μ H σ) {x : D} {v : V} {xs : List D} (h : Rep T μ H x v) (e : lsOf σ x = some xs) : ∃ a vs, v = .ref a ∧ H a = some (.lst vs) ∧ RepL T μ H xs vs := by
  cases x with
  | ref n => obtain ⟨a, vs, h1, _, h2, h3⟩ := r.lst h e; exact ⟨a, vs, h1, h2, h3⟩
  | lst ys => cases e; rw [Rep] at h; obtain ⟨a, vs, h1, _, h2, h3⟩ := h; exact ⟨a, vs, h1, h2, h3⟩
  | _ => cases e
def methK (o : D → List D → M D) (m : M (List D)) (x : D) : M D := fun σ => match lsOf σ x with
  | some _ => bnd m (o x) σ
  | none => .bad
def eMeth (o : D → List D → M D) (f : Ev → M D) (fs : Ev → M (List D)) : Ev → M D := fun ρ => bnd (f ρ) (methK o (fs ρ))
def SndMt (T : Tb) (r : V → List V → Hp → VK → Prop) (o : D → List D → M D) : Prop := ∀ (E : XK) μ H σ x xs v vs Q, Rel T μ H σ → Rep T μ H x v → RepL T μ H xs vs → Post T E (Rep T) μ H (o x xs σ) Q → r v vs H Q
def oAppend (x : D) (xs : List D) : M D := fun σ => match x, xs with
  | .ref n, [y] => (match lstAt σ n with
    | some ys => if ys.length < cap then .ok .non (σ.set n (.lst (ys ++ [y]))) else .bad
    | none => .bad)
  | _, _ => .bad
section
variable {T : Tb} {X : Cx} {o e : Expr} {es : List Expr} {f : Ev → M D} {fs : Ev → M (List D)} {name : Str} {apos cpos : Pos} {id : String} {r : V → List V → Hp → VK → Prop} {g : D → List D → M D}
theorem fe_meth (pa : PlainAttrs "list") (slot : Slot "list" name id) (hty : typeOf (.builtin id) = pure (.type "method_descriptor")) (hm : MtR X id r) (hs : SndMt T r g) (ho : FE T X o f) (ha : FA T X (e :: es) fs)
    (hbase : attributeBase o name X.env (eval o X.env) = eval o X.env := by rfl)
    (hfew : ((backTo cpos (starEach (e :: es) X.env)).all (fun x => !x.1) && (backToKw cpos (keywordEach [] X.env)).all (fun x => x.1.isSome)
      && decide ((e :: es).length + ([] : List Keyword).length + (if ([] : List Keyword).isEmpty then 0 else 1) < 30)) = true := by rfl)
    (hline : (apos.endLine == cpos.line) = true := by rfl) (hst : starEach (e :: es) X.env = (false, eval e X.env) :: starEach es X.env := by rfl) (hplain : (backTo cpos (starEach es X.env)).any (·.1) = false := by rfl) :
    FE T X (.Call (.Attribute o name apos) (e :: es) [] cpos) (eMeth g f fs) := by
  intro pins s st H Q I h
  refine pe_bm pa slot hty hm ho ha hbase hfew hline hst hplain pins s st H Q I ?_
  obtain ⟨μ, ρ, σ, he, hr, hp⟩ := h
  refine ⟨μ, ρ, σ, he, hr, hp.bind fun x σ1 μ1 v H1 _ e1 r1 p1 q1 => ?_⟩
  unfold methK at q1
  cases el : lsOf σ1 x with
  | none => rw [el] at q1; exact q1.elim
  | some xs =>
    rw [el] at q1
    obtain ⟨a, vs, rfl, h1, h2⟩ := r1.ls p1 el
    refine ⟨.inl ⟨rfl, vs, SqL.of h1⟩, μ1, ρ, σ1, he.mono e1, r1, q1.bind fun ds σ2 μ2 ws H2 _ e2 r2 p2 q2 => ?_⟩
    exact hs _ μ2 H2 σ2 x ds (.ref a) ws Q r2 (Rep.mono e2 _ _ p1) p2 q2
theorem snd_append : SndMt T rAppend oAppend := by
  intro E μ H σ x xs v vs Q r p q h
  cases x with
  | ref n =>
    match xs with
    | [] => exact h.elim
    | [y] =>
      rw [RepL] at q
      obtain ⟨w, z, rfl, q1, q2⟩ := q
      rw [RepL] at q2; subst q2
      unfold oAppend at h
      cases el : lstAt σ n with
      | none => simp only [el] at h; exact h.elim
      | some ys =>
        simp only [el] at h
        by_cases hc : ys.length < cap
        · rw [if_pos hc] at h
          obtain ⟨a, vs, rfl, hn, h1, h2⟩ := r.lst p el
          have wr := r.write (o := .lst (vs ++ [w])) (ob := .lst (ys ++ [y])) hn ⟨_, upd_same, by
            have ex : Ext μ H μ (upd H a (.lst (vs ++ [w]))) := ext_write (List.mem_of_getElem? hn) h1 (fun _ z => by cases z) (fun _ _ z => by cases z)
            exact RepL.append (RepL.mono ex _ _ h2) (RepL.cons (Rep.mono ex _ _ q1) RepL.nil)⟩
          exact ⟨a, vs, w, rfl, rfl, h1, by rw [← h2.length]; exact cap_lt hc, h _ _ _ wr.1 wr.2 (by rw [Rep])⟩
        · rw [if_neg hc] at h; exact h.elim
    | _ :: _ :: _ => exact h.elim
  | _ => exact h.elim
end
end L4

namespace L4
open PySem PySem.Spec PyProof.Rows L2

/-! ### isinstance against a built-in type -/
inductive BT where
  | int | bool | str | tuple | list | dict
def BT.nm : BT → String
  | .int => "int" | .bool => "bool" | .str => "str" | .tuple => "tuple" | .list => "list" | .dict => "dict"
def isBT (σ : Sto) (c : BT) : D → Option Bool
  | .non => some false
  | .bl _ => some (match c with | .int => true | .bool => true | _ => false)
  | .int _ => some (match c with | .int => true | _ => false)
  | .str _ => some (match c with | .str => true | _ => false)
  | .tup _ => some (match c with | .tuple => true | _ => false)
  | .scr _ => none
  | .lst _ => some (match c with | .list => true | _ => false)
  | .dic _ _ => some (match c with | .dict => true | _ => false)
  | .obj _ _ _ => none
  | .exn _ => none
  | .ref n => match σ[n]? with
    | some (.lst _) => some (match c with | .list => true | _ => false)
    | some (.dic _) => some (match c with | .dict => true | _ => false)
    | _ => none
def oIsB (c : BT) (x : D) : M D := fun σ => match isBT σ c x with
  | some b => .ok (.bl b) σ
  | none => .bad
section
variable {T : Tb} {X : Cx}
def rIsI (K : PySem.W.Frag) (c : String) : List V → Hp → VK → Prop := fun xs H Q => ∃ x t b, xs = [x, .ty c] ∧ TyOf K H x t ∧ PySem.W.kitOne K t (.type c) = some b ∧ Q (.bl b) H
theorem call_isI (c : String) : CallR X (.builtin "isinstance") (rIsI X.K c) := by
  intro pins s st H xs us Q I r h
  obtain ⟨x, t, b, rfl, ty, e, q⟩ := h
  obtain ⟨u, u2, rfl, ru, ru2⟩ := vals2 r
  cases ru2
  exact isinst_ok I ru ty e fun tk => ⟨.bl b, H, I.tok _, rfl, q⟩
theorem ty_of {μ : List Addr} {H : Hp} {σ : Sto} {x : D} {v : V} {c : BT} {b : Bool} (r : Rel T μ H σ) (p : Rep T μ H x v) (h : isBT σ c x = some b) : ∃ t, TyOf X.K H v t ∧ PySem.W.kitOne X.K t (.type c.nm) = some b := by
  cases x with
  | non => rw [Rep] at p; subst p; refine ⟨_, .non, ?_⟩; cases c <;> cases h <;> rfl
  | bl i => rw [Rep] at p; subst p; refine ⟨_, .bl i, ?_⟩; cases c <;> cases h <;> rfl
  | int i => rw [Rep] at p; subst p; refine ⟨_, .int i, ?_⟩; cases c <;> cases h <;> rfl
  | str i => rw [Rep] at p; subst p; refine ⟨_, .str i, ?_⟩; cases c <;> cases h <;> rfl
  | tup ds => rw [Rep] at p; obtain ⟨q, vs, rfl, h1, _⟩ := p; refine ⟨_, .tup h1, ?_⟩; cases c <;> cases h <;> rfl
  | scr ns => cases h
  | lst ds => rw [Rep] at p; obtain ⟨q, vs, rfl, _, h1, _⟩ := p; refine ⟨_, .lst h1, ?_⟩; cases c <;> cases h <;> rfl
  | dic ks ds => rw [Rep] at p; obtain ⟨q, vs, rfl, _, h1, _⟩ := p; refine ⟨_, .dK h1, ?_⟩; cases c <;> cases h <;> rfl
  | obj c' ks ds => cases h
  | exn c' => cases h
  | ref n =>
    unfold isBT at h; dsimp only at h
    cases e : σ[n]? with
    | none => rw [e] at h; cases h
    | some o =>
      rw [e] at h
      obtain ⟨a, rfl, _, h2⟩ := r.at p e
      cases o with
      | lst xs => obtain ⟨vs, h3, _⟩ := h2; refine ⟨_, .lst h3, ?_⟩; cases c <;> cases h <;> rfl
      | dic xs => obtain ⟨vs, h3, _⟩ := h2; refine ⟨_, .dK h3, ?_⟩; cases c <;> cases h <;> rfl
      | ins c' fs => cases h
theorem fe_isB (c : BT) {tn : Str} {e : Expr} {f : Ev → M D} {p p2 pos : Pos} (he : FE T X e f) (hg : Gl X "isinstance") (hm : X.mg "isinstance" = none) (hg2 : Gl X tn) (hm2 : X.mg tn = none) (hv2 : bootBuiltins tn = some (.type c.nm)) (hn2 : tn ≠ "__name__" := by decide) (hd2 : (tn == ("__debug__" : Str)) = false := by decide)
    (hs : starEach [e, .Name tn p2] X.env = (false, eval e X.env) :: starEach [.Name tn p2] X.env := by rfl) (hpl : (backTo pos (starEach [.Name tn p2] X.env)).any (·.1) = false := by rfl) :
    FE T X (.Call (.Name "isinstance" p) [e, .Name tn p2] [] pos) (eUn (oIsB c) f) := by
  intro pins s st H Q I h
  refine pe_callB (call_isI c.nm) hg hm boot_isinstance (pa_cons he (pa_cons (pe_bltn hg2 hm2 hv2 (v := .ty c.nm) rfl hn2 hd2) pa_nil) hs) (by decide) (by decide) hs hpl pins s st H Q I ?_
  obtain ⟨μ, ρ, σ, hE, hr, hp⟩ := h
  refine ⟨μ, ρ, σ, hE, hr, hp.bind fun x σ1 μ1 v H1 _ e1 r1 p1 q1 => ?_⟩
  unfold oIsB at q1
  cases eb : isBT σ1 c x with
  | none => rw [eb] at q1; exact q1.elim
  | some b =>
    rw [eb] at q1
    obtain ⟨t, h1, h2⟩ := ty_of (X := X) r1 p1 eb
    exact ⟨v, t, b, rfl, h1, h2, Post.here q1 r1 (by rw [Rep])⟩
end

end L4

namespace L4
open PySem PySem.Spec PyProof.Rows L2

/-! ### statements -/
def sNil : Ev → M Fl := fun ρ => ret (.nx ρ)
def seqK (h : Ev → M Fl) : Fl → M Fl
  | .nx ρ' => h ρ'
  | .rt d => ret (.rt d)
  | .bk ρ' => ret (.bk ρ')
  | .ct ρ' => ret (.ct ρ')
  | .xc ρ' x => ret (.xc ρ' x)
def sSeq (g h : Ev → M Fl) : Ev → M Fl := fun ρ => bnd (g ρ) (seqK h)
def retK : D → M Fl := fun d => ret (.rt d)
def sRet (f : Ev → M D) : Ev → M Fl := fun ρ => xs ρ (f ρ) retK
def expK (ρ : Ev) : D → M Fl := fun _ => ret (.nx ρ)
def sExp (f : Ev → M D) : Ev → M Fl := fun ρ => xs ρ (f ρ) (expK ρ)
def setK (i : Nat) (ρ : Ev) : D → M Fl := fun d => ret (.nx (ρ.set i (some d)))
def sSet (i : Nat) (f : Ev → M D) : Ev → M Fl := fun ρ => xs ρ (f ρ) (setK i ρ)
def sIf (t : Ev → M Bool) (a b : Ev → M Fl) : Ev → M Fl := fun ρ => xs ρ (t ρ) (ifK (a ρ) (b ρ))
section
variable {T : Tb} {X : Cx} {st' : Stmt} {rest : List Stmt} {g h : Ev → M Fl} {e : Expr} {f : Ev → M D} {pos : Pos}
theorem fss_nil : FSs T X [] sNil := by
  intro pins s st H D I hw
  obtain ⟨μ, ρ, σ, hE, hr, hp⟩ := hw
  exact pss_nil pins s st H D I (Post.here (g := Gl2.nx st) hp hr hE)
theorem seq_end {μ : List Addr} {H : Hp} {σ : Sto} {fl : Fl} {gl : Gl2} {D : Ends} {N : St → Hp → Prop} (r : Rel T μ H σ) (q : RFl T μ H fl gl) (k : Fl → M Fl)
    (hn : ∀ ρ, fl = .nx ρ → ∀ st, gl = .nx st → ERep T μ H ρ st → N st H) (ho : (∀ ρ, fl ≠ .nx ρ) → Post T EN (RFl T) μ H (.ok fl σ) (EndQ X D)) : EndQ X { D with nx := N } gl H := by
  cases fl with
  | nx ρ => cases gl with
    | nx st => exact hn ρ rfl st rfl q
    | _ => exact q.elim
  | rt d => cases gl with
    | rt v => have z := Post.here (g := Gl2.rt v) (ho fun _ z => by cases z) r q; exact z
    | _ => exact q.elim
  | bk ρ => cases gl with
    | bk v => have z := Post.here (g := Gl2.bk v) (ho fun _ z => by cases z) r q; exact z
    | _ => exact q.elim
  | ct ρ => cases gl with
    | ct v => have z := Post.here (g := Gl2.ct v) (ho fun _ z => by cases z) r q; exact z
    | _ => exact q.elim
  | xc ρ x => cases gl with
    | xc v c => have z := Post.here (g := Gl2.xc v c) (ho fun _ z => by cases z) r q; exact z
    | _ => exact q.elim
theorem fss_cons (h1 : FS T X st' g) (h2 : FSs T X rest h) : FSs T X (st' :: rest) (sSeq g h) := by
  intro pins s st H D I hw
  refine pss_cons h1 h2 pins s st H D I ?_
  obtain ⟨μ, ρ, σ, hE, hr, hp⟩ := hw
  refine ⟨μ, ρ, σ, hE, hr, hp.bind fun fl σ1 μ1 gl H1 _ e1 r1 q1 p1 => ?_⟩
  refine seq_end (X := X) r1 q1 (fun _ => bad) (fun ρ' ef st1 eg he => ?_) (fun hn => ?_)
  · subst ef
    exact ⟨μ1, ρ', σ1, he, r1, p1⟩
  · cases fl with
    | nx ρ' => exact (hn ρ' rfl).elim
    | _ => exact p1
theorem fss_one (h1 : FS T X st' g) : FSs T X [st'] g := pss_one h1
theorem fs_ret (he : FE T X e f) : FS T X (.Return (some e) pos) (sRet f) := by
  intro pins s st H D I hw
  refine ps_ret he pins s st H D I ?_
  obtain ⟨μ, ρ, σ, hE, hr, hp⟩ := hw
  exact ⟨μ, ρ, σ, hE, hr, hp.xs hE fun d σ1 μ1 v H1 _ e1 r1 q1 p1 => Post.here (g := Gl2.rt v) p1 r1 q1⟩
theorem fs_expr (he : FE T X e f) (hs : swapsWith e none pos.line X.env = pure false := by rfl) : FS T X (.Expr e pos) (sExp f) := by
  intro pins s st H D I hw
  refine ps_expr he hs pins s st H D I ?_
  obtain ⟨μ, ρ, σ, hE, hr, hp⟩ := hw
  exact ⟨μ, ρ, σ, hE, hr, hp.xs hE fun d σ1 μ1 v H1 _ e1 r1 q1 p1 => Post.here (g := Gl2.nx st) p1 r1 (hE.mono e1)⟩
theorem fs_set {i : Nat} {x : Str} {pos' : Pos} (hN : X.N.Nodup) (hi : X.N[i]? = some x) (hx : Loc X.env.scope x) (he : FE T X e f) (hs : swapsWith e (some (.Name x pos')) pos.line X.env = pure false := by rfl) (hf : X.fn x = true ∨ X.env.scope.names.lookup x = some .local := by first | exact .inl rfl | exact .inr rfl | assumption) :
    FS T X (.Assign [.Name x pos'] e pos) (sSet i f) := by
  intro pins s st H D I hw
  refine ps_set hN hi hx he hs hf pins s st H D I ?_
  obtain ⟨μ, ρ, σ, hE, hr, hp⟩ := hw
  exact ⟨μ, ρ, σ, hE, hr, hp.xs hE fun d σ1 μ1 v H1 _ e1 r1 q1 p1 => Post.here (g := Gl2.nx (st.set i (some v))) p1 r1 ((hE.mono e1).set i q1)⟩
theorem fs_if {c : Expr} {a b : List Stmt} {tc : Ev → M Bool} {ga gb : Ev → M Fl} (hc : FT T X c tc) (ha : FSs T X a ga) (hb : FSs T X b gb) : FS T X (.If c a b pos) (sIf tc ga gb) := by
  intro pins s st H D I hw
  refine ps_if hc ha hb pins s st H D I ?_
  obtain ⟨μ, ρ, σ, hE, hr, hp⟩ := hw
  refine ⟨μ, ρ, σ, hE, hr, hp.xs hE fun c σ1 μ1 v H1 _ e1 r1 q1 p1 => ?_⟩
  cases q1
  cases c with
  | true => unfold ifK at p1; rw [if_pos rfl] at p1 ⊢; exact ⟨μ1, ρ, σ1, hE.mono e1, r1, p1⟩
  | false => unfold ifK at p1; rw [if_neg Bool.false_ne_true] at p1 ⊢; exact ⟨μ1, ρ, σ1, hE.mono e1, r1, p1⟩

/-! ### targets -/
def gD (T : Tb) (tg : D → Ev → Option Ev) : TG := fun v st H Q => ∃ μ σ ρ d ρ', ERep T μ H ρ st ∧ Rel T μ H σ ∧ Rep T μ H d v ∧ tg d ρ = some ρ' ∧ ∀ st', ERep T μ H ρ' st' → Q st' H
def gsD (T : Tb) (tg : List D → Ev → Option Ev) : TGs := fun vs st H Q => ∃ μ σ ρ ds ρ', ERep T μ H ρ st ∧ Rel T μ H σ ∧ RepL T μ H ds vs ∧ tg ds ρ = some ρ' ∧ ∀ st', ERep T μ H ρ' st' → Q st' H
abbrev FG (T : Tb) (X : Cx) (t : Expr) (tg : D → Ev → Option Ev) : Prop := PG X t (gD T tg)
abbrev FGs (T : Tb) (X : Cx) (ts : List Expr) (tg : List D → Ev → Option Ev) : Prop := PGs X ts (gsD T tg)
def tgN (i : Nat) : D → Ev → Option Ev := fun d ρ => some (ρ.set i (some d))
def tgNil : List D → Ev → Option Ev
  | [], ρ => some ρ
  | _ :: _, _ => none
def tgCons (t : D → Ev → Option Ev) (u : List D → Ev → Option Ev) : List D → Ev → Option Ev
  | [], _ => none
  | d :: ds, ρ => (t d ρ).bind fun ρ' => u ds ρ'
def tgT (n : Nat) (t : List D → Ev → Option Ev) : D → Ev → Option Ev
  | .tup ds, ρ => if ds.length = n then t ds ρ else none
  | _, _ => none
theorem fg_name {i : Nat} {x : Str} (hN : X.N.Nodup) (hi : X.N[i]? = some x) (hx : Loc X.env.scope x) (hf : X.fn x = true ∨ X.env.scope.names.lookup x = some .local := by first | exact .inl rfl | exact .inr rfl | assumption) : FG T X (.Name x pos) (tgN i) := by
  intro pins s st H v u Q I r h
  obtain ⟨μ, σ, ρ, d, ρ', hE, hr, hd, ht, hq⟩ := h
  cases ht
  exact pg_name hN hi hx hf pins s st H v u Q I r (hq _ (hE.set i hd))
theorem fgs_nil : FGs T X [] tgNil := by
  intro pins s st H vs us Q I r h
  obtain ⟨μ, σ, ρ, ds, ρ', hE, hr, hd, ht, hq⟩ := h
  cases ds with
  | nil => cases ht; rw [RepL] at hd; subst hd; exact pgs_nil pins s st H [] us Q I r ⟨rfl, hq _ hE⟩
  | cons d ds => cases ht
theorem fgs_cons {es : List Expr} {t : D → Ev → Option Ev} {u : List D → Ev → Option Ev} (h1 : FG T X e t) (h2 : FGs T X es u)
    (hs : (assignEach (e :: es) X.env).map (·.2) = assign e X.env :: (assignEach es X.env).map (·.2) := by rfl) : FGs T X (e :: es) (tgCons t u) := by
  intro pins s st H vs us Q I r h
  obtain ⟨μ, σ, ρ, ds, ρ', hE, hr, hd, ht, hq⟩ := h
  cases ds with
  | nil => cases ht
  | cons d ds =>
    rw [RepL] at hd
    obtain ⟨v, w, rfl, hd1, hd2⟩ := hd
    obtain ⟨ρ1, e1, e2⟩ := Option.bind_eq_some_iff.mp ht
    refine pgs_cons h1 h2 hs pins s st H (v :: w) us Q I r ⟨v, w, rfl, μ, σ, ρ, d, ρ1, hE, hr, hd1, e1, fun st1 hE1 => ?_⟩
    exact ⟨μ, σ, ρ1, ds, ρ', hE1, hr, hd2, e2, hq⟩
theorem fg_tup {es : List Expr} {k : Nat} {t : List D → Ev → Option Ev} {n : Nat} (hc : X.calm = true) (h : FGs T X es t)
    (hn : (assignEach es X.env).length = n := by rfl) (hst : (assignEach es X.env).findIdx? (·.1) = none := by rfl) : FG T X (.Tuple es k pos) (tgT n t) := by
  intro pins s st H v u Q I r hw
  obtain ⟨μ, σ, ρ, d, ρ', hE, hr, hd, ht, hq⟩ := hw
  cases d with
  | tup ds =>
    have hd0 := hd
    rw [Rep] at hd
    obtain ⟨p, vs, rfl, h1, h2⟩ := hd
    unfold tgT at ht; dsimp only at ht
    by_cases hl : ds.length = n
    · rw [if_pos hl] at ht
      exact pg_tup hc h hn hst pins s st H (.ref p) u Q I r ⟨p, vs, rfl, SqT.of h1, by rw [← h2.length]; exact hl, μ, σ, ρ, ds, ρ', hE, hr, h2, ht, hq⟩
    · rw [if_neg hl] at ht; cases ht
  | _ => cases ht
def asgK (tg : D → Ev → Option Ev) (ρ : Ev) (d : D) : M Fl := match tg d ρ with
  | some ρ' => ret (.nx ρ')
  | none => bad
def sAsg (f : Ev → M D) (tg : D → Ev → Option Ev) : Ev → M Fl := fun ρ => xs ρ (f ρ) (asgK tg ρ)
/-- xs[i] = v, a list of the store -/
def oSetL (x i d : D) : M Unit := fun σ => match x, i with
  | .ref n, .int k => (match lstAt σ n with
    | some xs => (match ixN xs.length k with
      | some j => .ok () (σ.set n (.lst (xs.set j d)))
      | none => .bad)
    | none => .bad)
  | _, _ => .bad
def setL3 (ρ : Ev) (d x i : D) : M Fl := fun σ => match oSetL x i d σ with
  | .ok _ σ' => .ok (.nx ρ) σ'
  | _ => .bad
def setL2 (ρ : Ev) (fi : Ev → M D) (d x : D) : M Fl := xs ρ (fi ρ) (setL3 ρ d x)
def setL1 (ρ : Ev) (fo fi : Ev → M D) (d : D) : M Fl := xs ρ (fo ρ) (setL2 ρ fi d)
def sSetL (f fo fi : Ev → M D) : Ev → M Fl := fun ρ => xs ρ (f ρ) (setL1 ρ fo fi)
end

end L4

namespace L4
open PySem PySem.Spec PyProof.Rows L2

/-! ### what a loop or a comprehension walks -/
inductive Src where
  | seq (ds : List D)
  | lref (n : Nat)
def Src.nx : Src → Nat → Sto → Option (Option D)
  | .seq ds, i, _ => some ds[i]?
  | .lref n, i, σ => (lstAt σ n).map fun xs => xs[i]?
def SrcOk (T : Tb) (μ0 : List Addr) (H0 : Hp) (src : Src) (J : It) : Prop := ∀ μ H σ i, Ext μ0 H0 μ H → Rel T μ H σ → match src.nx i σ with
  | none => True
  | some none => J.stop i H
  | some (some d) => J.go i H ∧ ∀ x H', J.yld i H x H' → H' = H ∧ Rep T μ H d x
def tI (T : Tb) (X : Cx) (f : Ev → M Src) : TI := fun st H R => ∃ μ ρ σ, ERep T μ H ρ st ∧ Rel T μ H σ ∧ Post T (XE X st) (SrcOk T) μ H (f ρ σ) R
abbrev FI (T : Tb) (X : Cx) (tg iter : Expr) (f : Ev → M Src) : Prop := PI X tg iter (tI T X f)
def rangeD (n : Nat) : List D := (List.range n).map fun (i : Nat) => D.int (i : Int)
def seqK2 (d : D) : M Src := fun σ => match d with
  | .tup ds => .ok (.seq ds) σ
  | .lst ds => .ok (.seq ds) σ
  | .scr ns => .ok (.seq (ns.map D.int)) σ
  | .ref n => (match lstAt σ n with
    | some _ => .ok (.lref n) σ
    | none => .bad)
  | _ => .bad
def srcS (f : Ev → M D) : Ev → M Src := fun ρ => bnd (f ρ) seqK2
noncomputable def small62 (j : Int) : Bool := hide (decide (-(2 ^ 62) ≤ j) && decide (j < 2 ^ 62))
noncomputable def rngK (d : D) : M Src := fun σ => match d with
  | .int j => if small62 j = true then .ok (.seq (rangeD j.toNat)) σ else .bad
  | _ => .bad
noncomputable def srcR (f : Ev → M D) : Ev → M Src := fun ρ => bnd (f ρ) rngK
section
variable {T : Tb} {X : Cx} {tg iter : Expr} {f : Ev → M D}
def iSeq (K : PySem.W.Frag) (tl : TE) : TI := fun σ H R => tl σ H fun x H1 => ∃ a, x = .ref a ∧ (((∃ xs, SqL K H1 a xs) ∧ R (Itl K a) H1) ∨ ((∃ xs, SqT K H1 a xs) ∧ R (Itt K a) H1))
theorem pi_seq {l : Expr} {tl : TE} (hl : PE X l tl) : PI X tg l (iSeq X.K tl) := by
  intro pins s σ H R I h
  refine thn (hl pins s σ H _ I h) fun v s1 ⟨x, H1, I1, r1, q1⟩ => ?_
  obtain ⟨a, e, q1⟩ := q1
  subst e
  cases r1
  rcases q1 with ⟨⟨xs, hq⟩, q⟩ | ⟨⟨xs, hq⟩, q⟩
  · obtain ⟨its, rv, p, hz⟩ := I1.list hq
    refine wpAny_pyIter_list p.isList ?_
    refine ⟨s1.heap.objs.size, [s1.heap.objs.size], _, _, H1, rfl, I1.kept (t' := s1.toks) fun b o e => Heap.get?_push_of_some _ e, turn_list a _, ⟨_, Heap.get?_push_size _ rfl, rfl, rfl⟩, fun b hb => ?_, q⟩
    have e : b = s1.heap.objs.size := by simpa using hb
    subst e
    exact I1.fpOk (Nat.le_refl _) (I1.hok.fresh (Nat.le_refl _))
  · obtain ⟨its, rv, p, hz⟩ := I1.tuple hq
    refine wpAny_pyIter_tuple (show s1.heap.IsTuple a its.toArray from p) ?_
    refine ⟨s1.heap.objs.size, [s1.heap.objs.size], _, _, H1, rfl, I1.kept (t' := s1.toks) fun b o e => Heap.get?_push_of_some _ e, turn_tuple a _, ⟨_, Heap.get?_push_size _ rfl, rfl, rfl⟩, fun b hb => ?_, q⟩
    have e : b = s1.heap.objs.size := by simpa using hb
    subst e
    exact I1.fpOk (Nat.le_refl _) (I1.hok.fresh (Nat.le_refl _))
theorem src_list {μ1 : List Addr} {H1 : Hp} {a : Addr} {ds : List D} {K : PySem.W.Frag} (h : ∀ μ2 H2, Ext μ1 H1 μ2 H2 → ∃ vs, SqL K H2 a vs ∧ RepL T μ2 H2 ds vs) : SrcOk T μ1 H1 (.seq ds) (Itl K a) := by
  intro μ2 H2 σ2 i ex r2
  obtain ⟨vs, h3, h4⟩ := h μ2 H2 ex
  show match some ds[i]? with | none => True | some none => _ | some (some d) => _
  cases e : ds[i]? with
  | none => exact ⟨vs, h3, by rw [← h4.length]; exact List.getElem?_eq_none_iff.mp e⟩
  | some d =>
    obtain ⟨v, hv1, hv2⟩ := h4.get e
    refine ⟨⟨vs, v, h3, hv1⟩, fun x H' y => ?_⟩
    obtain ⟨rfl, y⟩ := y
    have := y vs h3
    rw [hv1] at this; cases this
    exact ⟨rfl, hv2⟩
theorem src_tup {μ1 : List Addr} {H1 : Hp} {a : Addr} {ds : List D} {K : PySem.W.Frag} (h : ∀ μ2 H2, Ext μ1 H1 μ2 H2 → ∃ vs, SqT K H2 a vs ∧ RepL T μ2 H2 ds vs) : SrcOk T μ1 H1 (.seq ds) (Itt K a) := by
  intro μ2 H2 σ2 i ex r2
  obtain ⟨vs, h3, h4⟩ := h μ2 H2 ex
  show match some ds[i]? with | none => True | some none => _ | some (some d) => _
  cases e : ds[i]? with
  | none => exact ⟨vs, h3, by rw [← h4.length]; exact List.getElem?_eq_none_iff.mp e⟩
  | some d =>
    obtain ⟨v, hv1, hv2⟩ := h4.get e
    refine ⟨⟨vs, v, h3, hv1⟩, fun x H' y => ?_⟩
    obtain ⟨rfl, y⟩ := y
    have := y vs h3
    rw [hv1] at this; cases this
    exact ⟨rfl, hv2⟩
theorem fi_seq (hK : T.K = X.K) (h : FE T X iter f) : FI T X tg iter (srcS f) := by
  intro pins s st H R I hw
  refine pi_seq h pins s st H R I ?_
  obtain ⟨μ, ρ, σ, hE, hr, hp⟩ := hw
  refine ⟨μ, ρ, σ, hE, hr, hp.bind fun d σ1 μ1 v H1 _ e1 r1 q1 p1 => ?_⟩
  cases d with
  | tup ds =>
    rw [Rep] at q1
    obtain ⟨p, vs, rfl, h1, h2⟩ := q1
    exact ⟨p, rfl, .inr ⟨⟨vs, SqT.of h1⟩, Post.here (R := SrcOk T) p1 r1 (src_tup fun μ2 H2 ex => ⟨vs, SqT.of (ex.tup _ _ h1), RepL.mono ex _ _ h2⟩)⟩⟩
  | lst ds =>
    rw [Rep] at q1
    obtain ⟨p, vs, rfl, hn, h1, h2⟩ := q1
    exact ⟨p, rfl, .inl ⟨⟨vs, SqL.of h1⟩, Post.here (R := SrcOk T) p1 r1 (src_list fun μ2 H2 ex => ⟨vs, SqL.of (ex.keep _ _ h1 hn).1, RepL.mono ex _ _ h2⟩)⟩⟩
  | scr ns =>
    rw [Rep] at q1
    obtain ⟨p, rfl, h1⟩ := q1
    have hsc : ∀ μ2 H2, Ext μ1 H1 μ2 H2 → SqL X.K H2 p (ns.map V.int) := fun μ2 H2 ex => by
      have h2 : Rep T μ2 H2 (.scr ns) (.ref p) := Rep.mono ex _ _ (by rw [Rep]; exact ⟨p, rfl, h1⟩)
      rw [Rep] at h2
      obtain ⟨p', e', h3⟩ := h2
      cases e'
      rw [← hK]; exact h3.seq
    exact ⟨p, rfl, .inl ⟨⟨_, hsc _ _ (Ext.refl _ _)⟩, Post.here (R := SrcOk T) p1 r1 (src_list fun μ2 H2 ex => ⟨_, hsc μ2 H2 ex, repl_ints ns⟩)⟩⟩
  | ref n =>
    unfold seqK2 at p1
    dsimp only at p1
    cases el0 : lstAt σ1 n with
    | none => rw [el0] at p1; exact p1.elim
    | some xs =>
      rw [el0] at p1
      obtain ⟨a, vs, rfl, _, h1, h2⟩ := r1.lst q1 el0
      refine ⟨a, rfl, .inl ⟨⟨vs, SqL.of h1⟩, Post.here (R := SrcOk T) p1 r1 fun μ2 H2 σ2 i ex r2 => ?_⟩⟩
      show match (lstAt σ2 n).map (fun xs => xs[i]?) with | none => True | some none => _ | some (some d) => _
      cases el : lstAt σ2 n with
      | none => trivial
      | some ys =>
        obtain ⟨a', ws, ea, _, h3, h4⟩ := r2.lst (Rep.mono ex _ _ q1) el
        cases ea
        show match some (ys[i]?) with | none => True | some none => _ | some (some d) => _
        cases e : ys[i]? with
        | none => exact ⟨ws, SqL.of h3, by rw [← h4.length]; exact List.getElem?_eq_none_iff.mp e⟩
        | some d =>
          obtain ⟨v, hv1, hv2⟩ := h4.get e
          refine ⟨⟨ws, v, SqL.of h3, hv1⟩, fun x H' y => ?_⟩
          obtain ⟨rfl, y⟩ := y
          have := y ws (SqL.of h3)
          rw [hv1] at this; cases this
          exact ⟨rfl, hv2⟩
  | _ => exact p1.elim
theorem rangeD_get {n i : Nat} (h : i < n) : (rangeD n)[i]? = some (.int i) := by simp [rangeD, h]
theorem rangeD_len (n : Nat) : (rangeD n).length = n := by simp [rangeD]
theorem fi_range {a : Expr} {p pos : Pos} (hgl : Gl X "range") (hm : X.mg "range" = none) (ha : FE T X a f) (hst : starEach [a] X.env = [(false, eval a X.env)] := by rfl) : FI T X tg (.Call (.Name "range" p) [a] [] pos) (srcR f) := by
  intro pins s st H R I hw
  refine pi_range1 hgl hm (pa_cons ha pa_nil hst) hst pins s st H R I ?_
  obtain ⟨μ, ρ, σ, hE, hr, hp⟩ := hw
  refine ⟨μ, ρ, σ, hE, hr, hp.bind fun d σ1 μ1 v H1 _ e1 r1 q1 p1 => ?_⟩
  cases d with
  | int j =>
    rw [Rep] at q1
    subst q1
    unfold rngK at p1
    dsimp only at p1
    by_cases hj : small62 j = true
    · rw [if_pos hj] at p1
      simp only [small62, hide_eq, Bool.and_eq_true, decide_eq_true_eq] at hj
      refine ⟨j, rfl, hj.1, hj.2, Post.here (R := SrcOk T) p1 r1 fun μ2 H2 σ2 i ex r2 => ?_⟩
      show match some (rangeD j.toNat)[i]? with | none => True | some none => _ | some (some d) => _
      by_cases hi : i < j.toNat
      · rw [rangeD_get hi]
        refine ⟨hi, fun x H' y => ?_⟩
        obtain ⟨rfl, rfl⟩ := y
        exact ⟨rfl, by rw [Rep, Int.zero_add]⟩
      · rw [List.getElem?_eq_none_iff.mpr (by rw [rangeD_len]; omega)]
        exact Nat.not_lt.mp hi
    · rw [if_neg hj] at p1; exact p1.elim
  | _ => exact p1.elim
end

/-! ### loops -/
def loopK (k : Ev → M Fl) : Fl → M Fl
  | .nx ρ2 => k ρ2
  | .ct ρ2 => k ρ2
  | .bk ρ2 => ret (.nx ρ2)
  | .rt d => ret (.rt d)
  | .xc ρ x => ret (.xc ρ x)
def loop (tg : D → Ev → Option Ev) (body : Ev → M Fl) : List D → Ev → M Fl
  | [], ρ => ret (.nx ρ)
  | d :: ds, ρ => match tg d ρ with
    | none => bad
    | some ρ1 => bnd (body ρ1) (loopK (loop tg body ds))
def loopL (tg : D → Ev → Option Ev) (body : Ev → M Fl) (n : Nat) : Nat → Nat → Ev → M Fl
  | 0, _, _ => bad
  | k + 1, i, ρ => fun σ => match lstAt σ n with
    | none => .bad
    | some xs => match xs[i]? with
      | none => .ok (.nx ρ) σ
      | some d => match tg d ρ with
        | none => .bad
        | some ρ1 => bnd (body ρ1) (loopK (loopL tg body n k (i + 1))) σ
def forK (tg : D → Ev → Option Ev) (body : Ev → M Fl) (ρ : Ev) : Src → M Fl
  | .seq ds => loop tg body ds ρ
  | .lref n => loopL tg body n 1001 0 ρ
def sFor (src : Ev → M Src) (tg : D → Ev → Option Ev) (body : Ev → M Fl) : Ev → M Fl := fun ρ => xs ρ (src ρ) (forK tg body ρ)
section
variable {T : Tb} {X : Cx}
/-- what a turn hands on -/
theorem turn_end {μ1 : List Addr} {H1 : Hp} {σ1 : Sto} {fl : Fl} {gl : Gl2} {D : Ends} {k : Ev → M Fl} {N : St → Hp → Prop} (r1 : Rel T μ1 H1 σ1) (q1 : RFl T μ1 H1 fl gl) (p1 : Post T EN (RFl T) μ1 H1 (loopK k fl σ1) (EndQ X D))
    (hN : ∀ ρ2 st2, ERep T μ1 H1 ρ2 st2 → Post T EN (RFl T) μ1 H1 (k ρ2 σ1) (EndQ X D) → N st2 H1) : EndQ X { D with nx := N, ct := N, bk := D.nx } gl H1 := by
  cases fl with
  | nx ρ2 => cases gl with
    | nx st2 => exact hN ρ2 st2 q1 p1
    | _ => exact q1.elim
  | ct ρ2 => cases gl with
    | ct st2 => exact hN ρ2 st2 q1 p1
    | _ => exact q1.elim
  | bk ρ2 => cases gl with
    | bk st2 => have z : EndQ X D (Gl2.nx st2) H1 := Post.here (g := Gl2.nx st2) (d := Fl.nx ρ2) p1 r1 q1; exact z
    | _ => exact q1.elim
  | rt d2 => cases gl with
    | rt v2 => have z : EndQ X D (Gl2.rt v2) H1 := Post.here (g := Gl2.rt v2) (d := Fl.rt d2) p1 r1 q1; exact z
    | _ => exact q1.elim
  | xc ρ2 x => cases gl with
    | xc st2 c => have z : EndQ X D (Gl2.xc st2 c) H1 := Post.here (g := Gl2.xc st2 c) (d := Fl.xc ρ2 x) p1 r1 q1; exact z
    | _ => exact q1.elim
variable {tgt iter : Expr} {body : List Stmt} {src : Ev → M Src} {t : D → Ev → Option Ev} {g : Ev → M Fl} {pos : Pos}
theorem fs_for (hp : PassesOwn (model X.prog X.w) X.A X.env X.xe) (hc : X.calm = true) (hi : FI T X tgt iter src) (hg : FG T X tgt t) (hb : FSs T X body g)
    (hs : ∀ x, foldedSetIterable iter X.env x = pure x := by intro _; rfl) : FS T X (.For tgt iter body [] pos) (sFor src t g) := by
  intro pins s st H D I hq
  refine ps_for hp hc hi hg hb hs pins s st H D I ?_
  obtain ⟨μ, ρ, σ, hE, hr, hp⟩ := hq
  refine ⟨μ, ρ, σ, hE, hr, hp.xs hE fun src σ1 μ1 J H1 _ e1 r1 q1 p1 => ?_⟩
  cases src with
  | seq ds =>
    have p1' : Post T EN (RFl T) μ1 H1 (loop t g ds ρ σ1) (EndQ X D) := p1
    refine ⟨fun i m st2 H2 => m = ds.length - i ∧ ∃ μ ρ σ, Ext μ1 H1 μ H2 ∧ ERep T μ H2 ρ st2 ∧ Rel T μ H2 σ ∧ Post T EN (RFl T) μ H2 (loop t g (ds.drop i) ρ σ) (EndQ X D), ⟨ds.length, by simp, μ1, ρ, σ1, Ext.refl _ _, hE.mono e1, r1, by simpa using p1'⟩, ?_⟩
    rintro i m st2 H2 ⟨rfl, μ2, ρ2, σ2, ex, hE2, r2, p2⟩
    have so := q1 μ2 H2 σ2 i ex r2
    have so' : match (some ds[i]? : Option (Option L4.D)) with | none => True | some none => J.stop i H2 | some (some d) => J.go i H2 ∧ ∀ x H', J.yld i H2 x H' → H' = H2 ∧ Rep T μ2 H2 d x := so
    cases ei : ds[i]? with
    | none =>
      rw [ei] at so'
      rw [List.drop_eq_nil_of_le (List.getElem?_eq_none_iff.mp ei)] at p2
      exact .inl ⟨so', Post.here (g := Gl2.nx st2) p2 r2 hE2⟩
    | some d =>
      rw [ei] at so'
      obtain ⟨hl, ed⟩ := List.getElem?_eq_some_iff.mp ei
      have hd : ds.drop i = d :: ds.drop (i + 1) := by rw [← ed]; exact (List.drop_eq_getElem_cons hl)
      rw [hd] at p2
      unfold loop at p2
      refine .inr ⟨so'.1, fun st3 H3 => ∃ μ ρ σ, Ext μ1 H1 μ H3 ∧ ERep T μ H3 ρ st3 ∧ Rel T μ H3 σ ∧ Post T EN (RFl T) μ H3 (loop t g (ds.drop (i + 1)) ρ σ) (EndQ X D), fun st3 H3 h => ⟨ds.length - (i + 1), by omega, rfl, h⟩, fun x H3 y => ?_⟩
      obtain ⟨rfl, hx⟩ := so'.2 x H3 y
      cases ht : t d ρ2 with
      | none => rw [ht] at p2; exact p2.elim
      | some ρ3 =>
        rw [ht] at p2
        exact ⟨μ2, σ2, ρ2, d, ρ3, hE2, r2, hx, ht, fun st3 hE3 => ⟨μ2, ρ3, σ2, hE3, r2, p2.bind fun fl σ4 μ4 gl H4 _ e4 r4 q4 p4 => turn_end r4 q4 p4 fun ρ5 st5 hE5 p5 => ⟨μ4, ρ5, σ4, ex.trans e4, hE5, r4, p5⟩⟩⟩
  | lref n =>
    have p1' : Post T EN (RFl T) μ1 H1 (loopL t g n 1001 0 ρ σ1) (EndQ X D) := p1
    refine ⟨fun i m st2 H2 => ∃ μ ρ σ, Ext μ1 H1 μ H2 ∧ ERep T μ H2 ρ st2 ∧ Rel T μ H2 σ ∧ Post T EN (RFl T) μ H2 (loopL t g n m i ρ σ) (EndQ X D), ⟨1001, μ1, ρ, σ1, Ext.refl _ _, hE.mono e1, r1, p1'⟩, ?_⟩
    rintro i m st2 H2 ⟨μ2, ρ2, σ2, ex, hE2, r2, p2⟩
    cases m with
    | zero => exact p2.elim
    | succ m =>
      unfold loopL at p2
      have so := q1 μ2 H2 σ2 i ex r2
      have so' : match ((lstAt σ2 n).map fun xs => xs[i]? : Option (Option L4.D)) with | none => True | some none => J.stop i H2 | some (some d) => J.go i H2 ∧ ∀ x H', J.yld i H2 x H' → H' = H2 ∧ Rep T μ2 H2 d x := so
      cases el : lstAt σ2 n with
      | none => simp only [el] at p2; exact p2.elim
      | some xs =>
        simp only [el] at p2 so'
        cases ei : xs[i]? with
        | none =>
          simp only [ei, Option.map_some] at p2 so'
          exact .inl ⟨so', Post.here (g := Gl2.nx st2) p2 r2 hE2⟩
        | some d =>
          simp only [ei, Option.map_some] at p2 so'
          refine .inr ⟨so'.1, fun st3 H3 => ∃ μ ρ σ, Ext μ1 H1 μ H3 ∧ ERep T μ H3 ρ st3 ∧ Rel T μ H3 σ ∧ Post T EN (RFl T) μ H3 (loopL t g n m (i + 1) ρ σ) (EndQ X D), fun st3 H3 h => ⟨m, Nat.lt_succ_self _, h⟩, fun x H3 y => ?_⟩
          obtain ⟨rfl, hx⟩ := so'.2 x H3 y
          cases ht : t d ρ2 with
          | none => simp only [ht] at p2; exact p2.elim
          | some ρ3 =>
            simp only [ht] at p2
            exact ⟨μ2, σ2, ρ2, d, ρ3, hE2, r2, hx, ht, fun st3 hE3 => ⟨μ2, ρ3, σ2, hE3, r2, p2.bind fun fl σ4 μ4 gl H4 _ e4 r4 q4 p4 => turn_end r4 q4 p4 fun ρ5 st5 hE5 p5 => ⟨μ4, ρ5, σ4, ex.trans e4, hE5, r4, p5⟩⟩⟩
end
end L4

namespace L4
open PySem PySem.Spec PyProof.Rows L2

/-! ### what nobody changes any more: data -/
mutual
/-- no reference to the store -/
def cl : D → Bool
  | .tup xs => clL xs
  | .lst xs => clL xs
  | .dic _ xs => clL xs
  | .obj _ _ xs => clL xs
  | .ref _ => false
  | .non => true
  | .bl _ => true
  | .int _ => true
  | .str _ => true
  | .scr _ => true
  | .exn _ => true
def clL : List D → Bool
  | [] => true
  | d :: ds => cl d && clL ds
end
def fzL (f : D → Option D) : List D → Option (List D)
  | [] => some []
  | d :: ds => match f d, fzL f ds with
    | some x, some xs => some (x :: xs)
    | _, _ => none
def fz (k : Nat) (σ : Sto) : Nat → D → Option D
  | 0, d => if cl d = true then some d else match d with
    | .ref n => if n < k then some (.ref n) else none
    | _ => none
  | m + 1, d => if cl d = true then some d else match d with
    | .ref n => if n < k then some (.ref n) else match σ[n]? with
      | some (.lst xs) => (fzL (fz k σ m) xs).map .lst
      | some (.dic kvs) => (fzL (fz k σ m) (kvs.map (·.2))).map (.dic (kvs.map (·.1)))
      | some (.ins c fs) => (fzL (fz k σ m) (fs.map (·.2))).map (.obj c (fs.map (·.1)))
      | none => none
    | .tup xs => (fzL (fz k σ m) xs).map .tup
    | .lst xs => (fzL (fz k σ m) xs).map .lst
    | .dic ks xs => (fzL (fz k σ m) xs).map (.dic ks)
    | .obj c ns xs => (fzL (fz k σ m) xs).map (.obj c ns)
    | _ => none
open Classical in
/-- the store is as it was: what was made is data or gone -/
noncomputable def frzO (σ : Sto) : Out D → Out D
  | .ok d σ' => if σ'.take σ.length = σ then (match fz σ.length σ' 6 d with
    | some d' => .ok d' σ
    | none => .bad) else .bad
  | .ex x σ' => if σ'.take σ.length = σ then .ex x σ else .bad
  | .bad => .bad
noncomputable def frz (f : M D) : M D := fun σ => frzO σ (f σ)

section
variable {T : Tb} {μ μ' : List Addr} {H H' : Hp} {σ σ' : Sto}
mutual
theorem cl_down (e : ∃ r, μ' = μ ++ r) : ∀ (d : D) (v : V), cl d = true → Rep T μ' H d v → Rep T μ H d v
  | .non, v, _, h => by simpa [Rep] using h
  | .bl b, v, _, h => by simpa [Rep] using h
  | .int i, v, _, h => by simpa [Rep] using h
  | .str x, v, _, h => by simpa [Rep] using h
  | .tup ds, v, c, h => by
    rw [Rep] at h ⊢
    obtain ⟨p, vs, h1, h2, h3⟩ := h
    exact ⟨p, vs, h1, h2, clL_down e ds vs (by simpa [cl] using c) h3⟩
  | .scr ns, v, _, h => by rw [Rep] at h ⊢; exact h
  | .ref n, v, c, h => by simp [cl] at c
  | .lst ds, v, c, h => by
    rw [Rep] at h ⊢
    obtain ⟨a, vs, h1, h2, h3, h4⟩ := h
    exact ⟨a, vs, h1, fun z => h2 (by obtain ⟨r, rfl⟩ := e; exact List.mem_append_left _ z), h3, clL_down e ds vs (by simpa [cl] using c) h4⟩
  | .dic ks ds, v, c, h => by
    rw [Rep] at h ⊢
    obtain ⟨a, vs, h1, h2, h3, h5, h4⟩ := h
    exact ⟨a, vs, h1, fun z => h2 (by obtain ⟨r, rfl⟩ := e; exact List.mem_append_left _ z), h3, h5, clL_down e ds _ (by simpa [cl] using c) h4⟩
  | .obj k ns ds, v, c, h => by
    rw [Rep] at h ⊢
    obtain ⟨a, dx, vs, h1, h2, h3, h5, h4⟩ := h
    exact ⟨a, dx, vs, h1, fun z => h2 (by obtain ⟨r, rfl⟩ := e; exact List.mem_append_left _ z), h3, h5, clL_down e ds _ (by simpa [cl] using c) h4⟩
  | .exn k, v, _, h => by
    rw [Rep] at h ⊢
    obtain ⟨a, h1, h2, h3⟩ := h
    exact ⟨a, h1, fun z => h2 (by obtain ⟨r, rfl⟩ := e; exact List.mem_append_left _ z), h3⟩
theorem clL_down (e : ∃ r, μ' = μ ++ r) : ∀ (ds : List D) (vs : List V), clL ds = true → RepL T μ' H ds vs → RepL T μ H ds vs
  | [], vs, _, h => by simpa [RepL] using h
  | d :: ds, vs, c, h => by
    rw [RepL] at h ⊢
    obtain ⟨v, r, h1, h2, h3⟩ := h
    have c' : cl d = true ∧ clL ds = true := by simpa [clL, Bool.and_eq_true] using c
    exact ⟨v, r, h1, cl_down e d v c'.1 h2, clL_down e ds r c'.2 h3⟩
end
mutual
theorem Rep.down (e : ∃ r, μ' = μ ++ r) : ∀ (d : D) (v0 v : V), Rep T μ H d v0 → Rep T μ' H' d v → Rep T μ H' d v
  | .non, v0, v, _, h => by simpa [Rep] using h
  | .bl b, v0, v, _, h => by simpa [Rep] using h
  | .int i, v0, v, _, h => by simpa [Rep] using h
  | .str x, v0, v, _, h => by simpa [Rep] using h
  | .tup ds, v0, v, c, h => by
    rw [Rep] at h c ⊢
    obtain ⟨p, vs, h1, h2, h3⟩ := h
    obtain ⟨p0, vs0, _, _, c3⟩ := c
    exact ⟨p, vs, h1, h2, RepL.down e ds vs0 vs c3 h3⟩
  | .scr ns, v0, v, _, h => by rw [Rep] at h ⊢; exact h
  | .ref n, v0, v, c, h => by
    rw [Rep] at h c ⊢
    obtain ⟨a, h1, h2⟩ := h
    obtain ⟨b, _, c2⟩ := c
    refine ⟨a, h1, ?_⟩
    obtain ⟨r, rfl⟩ := e
    rw [List.getElem?_append_left (List.getElem?_eq_some_iff.mp c2).1] at h2
    exact h2
  | .lst ds, v0, v, c, h => by
    rw [Rep] at h c ⊢
    obtain ⟨a, vs, h1, h2, h3, h4⟩ := h
    obtain ⟨_, vs0, _, _, _, c4⟩ := c
    exact ⟨a, vs, h1, fun z => h2 (by obtain ⟨r, rfl⟩ := e; exact List.mem_append_left _ z), h3, RepL.down e ds vs0 vs c4 h4⟩
  | .dic ks ds, v0, v, c, h => by
    rw [Rep] at h c ⊢
    obtain ⟨a, vs, h1, h2, h3, h5, h4⟩ := h
    obtain ⟨_, vs0, _, _, _, _, c4⟩ := c
    exact ⟨a, vs, h1, fun z => h2 (by obtain ⟨r, rfl⟩ := e; exact List.mem_append_left _ z), h3, h5, RepL.down e ds _ _ c4 h4⟩
  | .obj k ns ds, v0, v, c, h => by
    rw [Rep] at h c ⊢
    obtain ⟨a, dx, vs, h1, h2, h3, h5, h4⟩ := h
    obtain ⟨_, _, vs0, _, _, _, _, c4⟩ := c
    exact ⟨a, dx, vs, h1, fun z => h2 (by obtain ⟨r, rfl⟩ := e; exact List.mem_append_left _ z), h3, h5, RepL.down e ds _ _ c4 h4⟩
  | .exn k, v0, v, _, h => by
    rw [Rep] at h ⊢
    obtain ⟨a, h1, h2, h3⟩ := h
    exact ⟨a, h1, fun z => h2 (by obtain ⟨r, rfl⟩ := e; exact List.mem_append_left _ z), h3⟩
theorem RepL.down (e : ∃ r, μ' = μ ++ r) : ∀ (ds : List D) (vs0 vs : List V), RepL T μ H ds vs0 → RepL T μ' H' ds vs → RepL T μ H' ds vs
  | [], vs0, vs, _, h => by simpa [RepL] using h
  | d :: ds, vs0, vs, c, h => by
    rw [RepL] at h c ⊢
    obtain ⟨v, r, h1, h2, h3⟩ := h
    obtain ⟨v0, r0, _, c2, c3⟩ := c
    exact ⟨v, r, h1, Rep.down e d v0 v c2 h2, RepL.down e ds r0 r c3 h3⟩
end
theorem paired_down {α : Type} (e : ∃ r, μ' = μ ++ r) : ∀ {xs : List (α × D)} {ys zs : List (α × V)}, Paired (fun (p : α × D) (q : α × V) => p.1 = q.1 ∧ Rep T μ H p.2 q.2) xs zs → Paired (fun (p : α × D) (q : α × V) => p.1 = q.1 ∧ Rep T μ' H' p.2 q.2) xs ys → Paired (fun (p : α × D) (q : α × V) => p.1 = q.1 ∧ Rep T μ H' p.2 q.2) xs ys
  | _, _, _, .nil, .nil => .nil
  | _, _, _, .cons a b, .cons c d => .cons ⟨c.1, Rep.down e _ _ _ a.2 c.2⟩ (paired_down e b d)
theorem ObR.down (e : ∃ r, μ' = μ ++ r) {a : Addr} : ∀ {o : Ob}, ObR T μ H a o → ObR T μ' H' a o → ObR T μ H' a o
  | .lst ds, ⟨_, _, c⟩, ⟨vs, h, r⟩ => ⟨vs, h, RepL.down e _ _ _ c r⟩
  | .dic kvs, ⟨_, _, c⟩, ⟨vs, h, r⟩ => ⟨vs, h, paired_down e c r⟩
  | .ins c fs, ⟨_, _, _, c'⟩, ⟨dx, vs, h, r⟩ => ⟨dx, vs, h, paired_down e c' r⟩
/-- back to the store as it was -/
theorem Rel.down (r0 : Rel T μ H σ) (r : Rel T μ' H' σ') (e : Ext μ H μ' H') (ht : σ'.take σ.length = σ) : Rel T μ H' σ ∧ Ext μ H μ H' := by
  refine ⟨⟨r0.len, r0.nd, fun n o h => ?_⟩, ⟨⟨[], by simp⟩, e.tup, e.frz, fun p o h n => ⟨(e.keep p o h n).1, n⟩⟩⟩
  obtain ⟨a, h1, h2⟩ := r0.obs n o h
  have h' : σ'[n]? = some o := by
    have hl := (List.getElem?_eq_some_iff.mp h).1
    rw [← ht, List.getElem?_take_of_lt hl] at h
    exact h
  obtain ⟨b, h3, h4⟩ := r.obs n o h'
  have eb := e.get h1
  rw [h3] at eb; cases eb
  exact ⟨a, h1, h2.down e.pre h4⟩
theorem repl_pairs {α : Type} : ∀ {xs : List (α × D)} {ys : List (α × V)}, Paired (fun (p : α × D) (q : α × V) => p.1 = q.1 ∧ Rep T μ H p.2 q.2) xs ys → ys.map (·.1) = xs.map (·.1) ∧ RepL T μ H (xs.map (·.2)) (ys.map (·.2))
  | _, _, .nil => ⟨rfl, RepL.nil⟩
  | _, _, .cons a b => by
    obtain ⟨h1, h2⟩ := repl_pairs b
    exact ⟨by simp [h1, a.1], RepL.cons a.2 h2⟩
theorem fzL_rep {f : D → Option D} (hf : ∀ d d' v, f d = some d' → Rep T μ' H d v → Rep T μ H d' v) : ∀ (ds ds' : List D) (vs : List V), fzL f ds = some ds' → RepL T μ' H ds vs → RepL T μ H ds' vs
  | [], ds', vs, h, r => by cases h; simpa [RepL] using r
  | d :: ds, ds', vs, h, r => by
    unfold fzL at h
    cases e1 : f d with
    | none => rw [e1] at h; cases h
    | some x =>
      cases e2 : fzL f ds with
      | none => rw [e1, e2] at h; cases h
      | some xs =>
        rw [e1, e2] at h; cases h
        rw [RepL] at r
        obtain ⟨v, w, rfl, h2, h3⟩ := r
        exact RepL.cons (hf d x v e1 h2) (fzL_rep hf ds xs w e2 h3)
theorem fz_rep (e : ∃ r, μ' = μ ++ r) (r : Rel T μ' H σ') : ∀ (m : Nat) (d d' : D) (v : V), fz μ.length σ' m d = some d' → Rep T μ' H d v → Rep T μ H d' v := by
  have old : ∀ n v, n < μ.length → Rep T μ' H (.ref n) v → Rep T μ H (.ref n) v := fun n v hn h => by
    rw [Rep] at h ⊢
    obtain ⟨a, h1, h2⟩ := h
    obtain ⟨q, rfl⟩ := e
    rw [List.getElem?_append_left hn] at h2
    exact ⟨a, h1, h2⟩
  intro m
  induction m with
  | zero =>
    intro d d' v h hr
    unfold fz at h
    by_cases hc : cl d = true
    · rw [if_pos hc] at h; cases h; exact cl_down e _ _ hc hr
    · rw [if_neg hc] at h
      cases d with
      | ref n =>
        dsimp only at h
        by_cases hn : n < μ.length
        · rw [if_pos hn] at h; cases h; exact old n v hn hr
        · rw [if_neg hn] at h; cases h
      | _ => cases h
  | succ m ih =>
    intro d d' v h hr
    unfold fz at h
    by_cases hc : cl d = true
    · rw [if_pos hc] at h; cases h; exact cl_down e _ _ hc hr
    · rw [if_neg hc] at h
      have go := fzL_rep (T := T) (μ := μ) (μ' := μ') (H := H) (f := fz μ.length σ' m) (fun d d' v a b => ih d d' v a b)
      cases d with
      | ref n =>
        dsimp only at h
        by_cases hn : n < μ.length
        · rw [if_pos hn] at h; cases h; exact old n v hn hr
        · rw [if_neg hn] at h
          cases es : σ'[n]? with
          | none => rw [es] at h; cases h
          | some o =>
            rw [es] at h
            obtain ⟨a, rfl, ha, hob⟩ := r.at hr es
            have out : a ∉ μ := fun z => by
              obtain ⟨i, hi⟩ := List.getElem?_of_mem z
              obtain ⟨q, rfl⟩ := e
              have hl := (List.getElem?_eq_some_iff.mp hi).1
              have := nodup_at r.nd (i := i) (j := n) (by rw [List.getElem?_append_left hl]; exact hi) ha
              omega
            cases o with
            | lst xs =>
              obtain ⟨ys, h1, h2⟩ := Option.map_eq_some_iff.mp h
              subst h2
              obtain ⟨vs, h3, h4⟩ := hob
              rw [Rep]
              exact ⟨a, vs, rfl, out, h3, go xs ys vs h1 h4⟩
            | dic kvs =>
              obtain ⟨ys, h1, h2⟩ := Option.map_eq_some_iff.mp h
              subst h2
              obtain ⟨vs, h3, h4⟩ := hob
              obtain ⟨h5, h6⟩ := repl_pairs h4
              rw [Rep]
              exact ⟨a, vs, rfl, out, h3, h5, go _ ys _ h1 h6⟩
            | ins c fs =>
              obtain ⟨ys, h1, h2⟩ := Option.map_eq_some_iff.mp h
              subst h2
              obtain ⟨dx, vs, h3, h4⟩ := hob
              obtain ⟨h5, h6⟩ := repl_pairs h4
              rw [Rep]
              exact ⟨a, dx, vs, rfl, out, h3, h5, go _ ys _ h1 h6⟩
      | tup xs =>
        obtain ⟨ys, h1, h2⟩ := Option.map_eq_some_iff.mp h
        subst h2
        rw [Rep] at hr ⊢
        obtain ⟨p, vs, e1, e2, e3⟩ := hr
        exact ⟨p, vs, e1, e2, go xs ys vs h1 e3⟩
      | lst xs =>
        obtain ⟨ys, h1, h2⟩ := Option.map_eq_some_iff.mp h
        subst h2
        rw [Rep] at hr ⊢
        obtain ⟨p, vs, e1, e0, e2, e3⟩ := hr
        exact ⟨p, vs, e1, fun z => e0 (by obtain ⟨r, rfl⟩ := e; exact List.mem_append_left _ z), e2, go xs ys vs h1 e3⟩
      | dic ks xs =>
        obtain ⟨ys, h1, h2⟩ := Option.map_eq_some_iff.mp h
        subst h2
        rw [Rep] at hr ⊢
        obtain ⟨p, vs, e1, e0, e2, e4, e3⟩ := hr
        exact ⟨p, vs, e1, fun z => e0 (by obtain ⟨r, rfl⟩ := e; exact List.mem_append_left _ z), e2, e4, go xs ys _ h1 e3⟩
      | obj c ks xs =>
        obtain ⟨ys, h1, h2⟩ := Option.map_eq_some_iff.mp h
        subst h2
        rw [Rep] at hr ⊢
        obtain ⟨p, dx, vs, e1, e0, e2, e4, e3⟩ := hr
        exact ⟨p, dx, vs, e1, fun z => e0 (by obtain ⟨r, rfl⟩ := e; exact List.mem_append_left _ z), e2, e4, go xs ys _ h1 e3⟩
      | _ => cases h
theorem Post.frz {E : XK} {f : M D} {Q : V → Hp → Prop} (r : Rel T μ H σ) (h : Post T E (Rep T) μ H (frz f σ) Q) : Post T E (Rep T) μ H (f σ) Q := by
  unfold L4.frz at h
  cases e : f σ with
  | bad => rw [e] at h; exact h
  | ex x σ1 =>
    rw [e] at h
    unfold frzO at h
    dsimp only at h
    by_cases ht : σ1.take σ.length = σ
    · rw [if_pos ht] at h
      intro μ1 H1 e1 r1
      obtain ⟨r2, e2⟩ := Rel.down r r1 e1 ht
      exact h μ H1 e2 r2
    · rw [if_neg ht] at h; exact h.elim
  | ok d σ1 =>
    rw [e] at h
    unfold frzO at h
    dsimp only at h
    by_cases ht : σ1.take σ.length = σ
    · rw [if_pos ht] at h
      cases ef : fz σ.length σ1 6 d with
      | none => rw [ef] at h; exact h.elim
      | some d' =>
        rw [ef] at h
        intro μ1 v H1 e1 r1 p1
        obtain ⟨r2, e2⟩ := Rel.down r r1 e1 ht
        exact h μ v H1 e2 r2 (fz_rep e1.pre r1 6 d d' v (by rw [r.len]; exact ef) p1)
    · rw [if_neg ht] at h; exact h.elim
end
/-- an expression, what it made being data -/
noncomputable def eFrz (f : Ev → M D) : Ev → M D := fun ρ => frz (f ρ)
theorem fe_frz {T : Tb} {X : Cx} {e : Expr} {f : Ev → M D} (h : FE T X e f) : FE T X e (eFrz f) := by
  intro pins s st H Q I hw
  obtain ⟨μ, ρ, σ, hE, hr, hp⟩ := hw
  exact h pins s st H Q I ⟨μ, ρ, σ, hE, hr, Post.frz hr hp⟩
end L4

namespace L4
open PySem PySem.Spec PyProof.Rows L2

/-! ### an exception leaves a frame, reaches a frame -/
section
variable {P : Program} {w : World} {H H' : Hp} {h h' : Heap} {a : Addr} {o : HO}
theorem objOk_there (x : ObjOk P w H h a o) : ∃ u, h.get? a = some u := by
  cases o with
  | lst xs => obtain ⟨_, _, _, _, e⟩ := x; exact ⟨_, e⟩
  | tup xs => obtain ⟨_, _, _, ob, e, _⟩ := x; exact ⟨_, e⟩
  | dK kvs => obtain ⟨_, _, _, _, o, _, _, e, _⟩ := x; exact ⟨_, e⟩
  | dT kvs => obtain ⟨_, _, _, _, o, _, _, e, _⟩ := x; exact ⟨_, e⟩
  | set S n => obtain ⟨o, _, _, _, e, _⟩ := x; exact ⟨_, e⟩
  | ins C dx fs => obtain ⟨_, _, _, e, _⟩ := x; exact ⟨_, e⟩
  | own y => obtain ⟨_, e⟩ := x; exact ⟨_, e⟩
  | xd fs => obtain ⟨_, ⟨_, _, _, e, _⟩, _⟩ := x; exact ⟨_, e⟩
  | rng lo hi => obtain ⟨_, _, _, e⟩ := x; exact ⟨_, e⟩
  | frz ob u => obtain ⟨e, _⟩ := x; exact ⟨_, e⟩
  | tbl ps => exact ⟨_, x⟩
  | met f y => exact ⟨_, x⟩
  | ext φ => obtain ⟨_, ⟨_, e⟩, _⟩ := x; exact ⟨_, e⟩
theorem hok_of (x : HOk P w H h) (k : ∀ b o u, H b = some o → h.get? b = some u → h'.get? b = some u) : HOk P w H h' := fun b o e =>
  (x b o e).stay (fun c v hc q => by
    rcases hc with rfl | hc
    · exact k _ _ _ e q
    · exact k _ _ _ hc q) (fun _ q => q) fun _ _ q => q
end
section
variable {X : Cx} {pins : List (Addr × Obj)} {st : St} {H H' : Hp} {s s' : Shared} {cls : Value} {h' : Heap} {ea : Addr} {args : List Value} {M : Model} {E : Value → Shared → Prop} {Q : Unit → Shared → Prop}
theorem flym_of {B : Heap} {l : List Env} {a0 : Value} {h : Heap} (x : Heap.FlyingW B l ea cls a0 h) : FlyM B l ea cls a0 h := ⟨x.1, x.2.1, x.2.2.1, .none, x.2.2.2.at⟩
theorem FlyM.there {B : Heap} {l : List Env} {a0 : Value} {h : Heap} (x : FlyM B l ea cls a0 h) : ∃ ob, h.get? ea = some ob ∧ ob.cls = cls := by
  obtain ⟨_, _, _, fl, q⟩ := x; exact q.there
/-- the mark goes -/
theorem lands_m {A : Around} {B : Heap} {l : List Env} {a0 : Value} (x : FlyM B l ea cls a0 s.heap) (hQ : ∀ h1, Heap.FlyingW B l ea cls a0 h1 → s.heap.UpToSlots h1 → Q () { s with heap := h1 }) : wpAny M A (setFlight (.ref ea) none) Q E s := by
  obtain ⟨f1, f2, f3, fl, f4⟩ := x
  exact wpAny_setFlight_noneW f1 f3 f4 fun h1 k1 k2 k3 k4 => hQ h1 ⟨k1, f2, k2, k3⟩ fun b o e n => ⟨o.slots, k4 b o e n⟩
/-- a frame notes it, whatever the mark -/
theorem looks_m {A : Around} {B : Heap} {env : Env} {outer : List Env} {L : Addr} {a0 : Value} (hfr : A.frames = some (env :: outer)) (hf : env.frame = some L) (x : FlyM B (env :: outer) ea cls a0 s.heap)
    (hQ : ∀ h1, Heap.HeldW B (env :: outer) ea cls a0 L h1 → s.heap.UpToSlots h1 → Q () { s with heap := h1 }) : wpAny M A (noteFrame (.ref ea) env) Q E s := by
  obtain ⟨f1, f2, f3, fl, f4⟩ := x
  by_cases hm : fl = rawInt L
  · subst hm; exact wpAny_noteFrame_againW hf f4 (hQ s.heap ⟨f1, f2, f3, f4⟩ (.refl _))
  · obtain ⟨oe, vs, T, oT, ts, he, hc, hd, h1, hnT, hTe, hT, hdT, h3⟩ := f4
    have sz : 3 < ts.size := (Array.getElem?_eq_some_iff.mp h3).1
    have oth : ∀ b, b ≠ T → (s.heap.update T (Obj.mapFields (·.setIfInBounds 3 Value.none))).get? b = s.heap.get? b := fun b hb => Heap.get?_update_other _ _ (Ne.symm hb)
    have nr : ∀ b o, s.heap.get? b = some o → (∀ v, o.data ≠ .fields v) → b ≠ T := fun b o hb hn q => by
      rw [q, hT] at hb; cases hb; exact hn ts hdT
    have selfT := Heap.get?_update_self (Obj.mapFields (·.setIfInBounds 3 Value.none)) hT (Obj.isFreed_of_fields (Obj.data_mapFields hdT _))
    have up : s.heap.UpToSlots (s.heap.update T (Obj.mapFields (·.setIfInBounds 3 Value.none))) := fun b o e n => ⟨o.slots, (oth b (nr b o e n)).trans e⟩
    have F0 : Heap.FlyingW B (env :: outer) ea cls a0 (s.heap.update T (Obj.mapFields (·.setIfInBounds 3 Value.none))) :=
      ⟨fun b o e => (oth b fun q => by rw [q, hnT] at e; cases e).trans (f1 b o e), f2, f3.of_keeps fun b o e n => ⟨o, (oth b (nr b o e n)).trans e, rfl⟩,
        oe, vs, T, _, _, (oth ea (Ne.symm hTe)).trans he, hc, hd, h1, hnT, hTe, selfT, Obj.data_mapFields hdT _, by simp [sz]⟩
    have key := wpAny_looks_onW (M := M) (E := E) (Q := Q) (s := { s with heap := s.heap.update T (Obj.mapFields (·.setIfInBounds 3 Value.none)) }) hfr hf F0 fun h2 q1 q2 => hQ h2 q1 (up.trans q2)
    intro Γ p hΓ
    have k := key Γ p hΓ
    unfold noteFrame at k ⊢
    simp only [hf] at k ⊢
    rw [Sem.wp_bind', wp_field_iff] at k ⊢
    obtain ⟨a1, o1, v1, x1, e1, g1, d1, i1, k⟩ := k
    cases e1
    have g1' : s.heap.get? ea = some o1 := (oth ea (Ne.symm hTe)).symm.trans g1
    have o1e : o1 = oe := by rw [he] at g1'; cases g1'; rfl
    subst o1e
    rw [hd] at d1; cases d1
    rw [h1] at i1; cases i1
    refine ⟨ea, o1, vs, .ref T, rfl, he, hd, h1, ?_⟩
    have nn : (Value.ref T != Value.none) = true := by simp
    simp only [nn, if_true] at k ⊢
    rw [Sem.wp_bind', wp_field_iff] at k ⊢
    obtain ⟨a2, o2, v2, x2, e2, g2, d2, i2, k⟩ := k
    cases e2
    have g2' := selfT.symm.trans g2
    cases g2'
    have d2' := (Obj.data_mapFields hdT (·.setIfInBounds 3 Value.none)).symm.trans d2
    cases d2'
    have x2e : x2 = Value.none := by have : (ts.setIfInBounds 3 Value.none)[3]? = some Value.none := by simp [sz]
                                     rw [this] at i2; cases i2; rfl
    subst x2e
    refine ⟨T, oT, ts, fl, rfl, hT, hdT, h3, ?_⟩
    have n1 : (Value.none == rawInt L) = false := by simp [rawInt]
    have n2 : (fl == rawInt L) = false := by
      cases q : fl == rawInt L with
      | false => rfl
      | true => exact absurd (beq_iff_eq.mp q) hm
    simp only [n1, n2, Bool.false_eq_true, if_false] at k ⊢
    rw [Sem.wp_bind', wp_setField_iff] at k ⊢
    obtain ⟨a3, o3, v3, e3, g3, d3, i3, k⟩ := k
    cases e3
    refine ⟨T, oT, ts, rfl, hT, hdT, sz, ?_⟩
    simp only [Heap.update_setField_twice] at k
    exact k
theorem leaves_m {A : Around} {B : Heap} {env : Env} {outer : List Env} {L : Addr} {a0 : Value} (hfr : A.frames = some (env :: outer)) (hf : env.frame = some L) (x : FlyM B (env :: outer) ea cls a0 s.heap)
    (hQ : ∀ h1, Heap.FlyingW B outer ea cls a0 h1 → s.heap.UpToSlots h1 → Q () { s with heap := h1 }) : wpAny M A (leaving env (.ref ea)) Q E s := by
  unfold leaving
  refine wpAny_bind (looks_m hfr hf x fun h1 q1 q2 => ?_)
  refine wpAny_landsW q1 fun h2 q3 q4 => ?_
  obtain ⟨k1, k2, ⟨_, _, k3⟩, k4⟩ := q3
  exact hQ h2 ⟨k1, k2, k3, k4⟩ (q2.trans q4)
theorem frs_own (hs : X.stack = X.env :: X.outer) (hf : X.env.frame = some X.env.locals) {b : Addr} : b ∈ frs X.stack ↔ b = X.env.locals ∨ b ∈ frs X.outer := by
  rw [hs]; unfold frs; rw [List.filterMap_cons, hf]; exact List.mem_cons
/-- the rest, from what stays of the heap of the last state -/
theorem fly_mk (I : Inv X pins st H s) (hs : X.stack = X.env :: X.outer) (hf : X.env.frame = some X.env.locals) (hx : X.ex = []) {h'' : Heap} (un : Un (frs X.stack) [] H H' s.heap h'') : Un (frs X.outer) [] X.H₀ H' X.s₀.heap h'' := by
  have nex : ∀ b, b ∉ X.ex := fun b z => by rw [hx] at z; cases z
  have neL : ∀ b o, X.s₀.heap.get? b = some o → b ≠ X.env.locals := fun b o e => Nat.ne_of_lt (Nat.lt_of_lt_of_le (Heap.lt_size e) I.ok.above)
  refine ⟨fun b o e n hb _ => ?_, fun b o e n hb _ => ?_, fun b o e n _ => ?_, fun b o e _ => ?_, fun b xs e => un.tups b xs (I.base.tups b xs e), fun b o u e => un.frzs b o u (I.base.frzs b o u e), fun b ps e => ?_⟩
  · exact un.keep b o (I.base.keep b o e n hb (nex b)) (I.base.free b o e n (nex b)) (fun z => ((frs_own hs hf).mp z).elim (neL b o e) hb) (by simp)
  · obtain ⟨sl, e1⟩ := I.base.slot b o e n hb (nex b)
    obtain ⟨sl', e2⟩ := un.slot b _ e1 (I.base.free b o e n (nex b)) ((frs_own hs hf).mpr (.inr hb)) (by simp)
    exact ⟨sl', e2⟩
  · obtain ⟨o', e1⟩ := I.base.there b o e (nex b)
    exact un.free b o' e1 (I.base.free b o e n (nex b)) (by simp)
  · obtain ⟨o', e1⟩ := I.base.there b o e (nex b)
    exact un.there b o' e1 (by simp)
  · obtain ⟨m1, e1⟩ := I.base.tbls b ps e
    obtain ⟨m2, e2⟩ := un.tbls b _ e1
    exact ⟨m1 ++ m2, by rw [e2, Array.append_assoc]⟩
/-- an exception made here leaves -/
theorem leave_made (I : Inv X pins st H s) (hs : X.stack = X.env :: X.outer) (hf : X.env.frame = some X.env.locals) (hex : X.ex = []) (hx : Heap.MadeExcOf s.heap h' ea cls args)
    (hQ : ∀ s'', Fly X.prog X.w X.outer X.H₀ X.s₀ cls H (.ref ea) s'' → Q () s'') : wpAny M X.A (leaving X.env (.ref ea)) Q E { s with heap := h' } := by
  have ff : s.heap.FunFrames (PySem.W.hideAll s.heap (frs X.stack)) (X.env :: X.outer) := by
    have := PySem.W.funFrames_hide (as := frs X.stack) I.stack (fun env he a ha => List.mem_filterMap.mpr ⟨env, he, ha⟩)
    rwa [hs] at this ⊢
  have hid : ∀ b o, s.heap.get? b = some o → b ∉ frs X.stack → (PySem.W.hideAll s.heap (frs X.stack)).get? b = some o := fun b o e n => PySem.W.hideAll_get _ e n
  refine wpAny_leaves_madeW (base := PySem.W.hideAll s.heap (frs X.stack)) (h := s.heap) (outer := X.outer) (L := X.env.locals) (by rw [← hs]; exact I.ok.frames) hf (fun b o q => PySem.W.of_hideAll _ q) ff hx fun h'' t x1 x2 x3 x4 => hQ _ ?_
  have stay : ∀ b o, s.heap.get? b = some o → b ∉ frs X.stack → h''.get? b = some o := fun b o e n => x1.1 b o (hid b o e n)
  have slots : ∀ b o, s.heap.get? b = some o → b ∈ frs X.stack → ∃ sl, h''.get? b = some { o with slots := sl } := fun b o e n => by
    obtain ⟨_, o', e', hd⟩ := I.stack.mem n
    rw [e] at e'; cases e'
    exact x4 b o (hx.keeps b o e) hd
  have un : Un (frs X.stack) [] H H s.heap h'' := ⟨fun b o e n hb _ => stay b o e hb, fun b o e n hb _ => slots b o e hb, fun b o e n _ => n, fun b o e _ => by
    by_cases hb : b ∈ frs X.stack
    · obtain ⟨sl, q⟩ := slots b o e hb; exact ⟨_, q⟩
    · exact ⟨o, stay b o e hb⟩, fun _ _ e => e, fun _ _ _ e => e, fun b ps e => ⟨#[], by rw [e]; simp⟩⟩
  have hn : H ea = none := by
    cases q : H ea with
    | none => rfl
    | some u => obtain ⟨v, e⟩ := objOk_there (I.hok _ _ q); rw [hx.new] at e; cases e
  have nst : ∀ b o, H b = some o → b ∉ frs X.stack := fun b o e z => by rw [I.stkFree b z] at e; cases e
  have nex : ∀ b, b ∉ X.ex := fun b z => by rw [hex] at z; cases z
  have neL : ∀ b o, X.s₀.heap.get? b = some o → b ≠ X.env.locals := fun b o e => Nat.ne_of_lt (Nat.lt_of_lt_of_le (Heap.lt_size e) I.ok.above)
  refine ⟨⟨ea, .ref t, _, rfl, flym_of x1, hn, ?_, fun b o e => ?_, fun b o e n hb => ?_, fun b o e hb => ?_⟩, I.os, I.bare, fly_mk I hs hf hex un, hok_of I.hok fun b o u e q => stay b u q (nst b o e)⟩
  · cases q : X.s₀.heap.get? ea with
    | none => rfl
    | some u => obtain ⟨v, e⟩ := I.base.there _ _ q (nex _); rw [hx.new] at e; cases e
  · obtain ⟨u, q⟩ := objOk_there (I.hok _ _ e)
    exact ⟨u, hid b u q (nst b o e)⟩
  · exact hid b o (I.base.keep b o e n hb (nex b)) fun z => ((frs_own hs hf).mp z).elim (neL b o e) hb
  · obtain ⟨o', q⟩ := I.base.there b o e (nex b)
    exact ⟨o', hid b o' q fun z => ((frs_own hs hf).mp z).elim (neL b o e) hb⟩
/-- what a later station leaves of the heap of a flying exception -/
theorem fly_un {P : Program} {w : World} {outer : List Env} {e : Value} (F : Fly P w outer H s cls H' e s') {h6 : Heap} {B : Heap} (hB : ∀ b o, s.heap.get? b = some o → H b = none → b ∉ frs outer → B.get? b = some o) (hT : ∀ b o, H' b = some o → ∃ ob, B.get? b = some ob)
    (hA : ∀ b o, s.heap.get? b = some o → b ∉ frs outer → ∃ o', B.get? b = some o') (hb0 : ∀ b o, B.get? b = some o → s'.heap.get? b = some o) (hb6 : ∀ b o, B.get? b = some o → h6.get? b = some o) (hsl : s'.heap.UpToSlots h6) (hfr : ∀ b ∈ frs outer, ∃ o, s.heap.get? b = some o ∧ (∀ vs, o.data ≠ .fields vs) ∧ H b = none) :
    Un (frs outer) [] H H' s.heap h6 ∧ HOk P w H' h6 := by
  refine ⟨⟨fun b o e n hb _ => hb6 b o (hB b o e n hb), fun b o e n hb hx => ?_, F.un.free, fun b o e hx => ?_, F.un.tups, F.un.frzs, F.un.tbls⟩, hok_of F.hok fun b o u e q => ?_⟩
  · obtain ⟨sl, e1⟩ := F.un.slot b o e n hb hx
    obtain ⟨o', e', hd, _⟩ := hfr b hb
    rw [e] at e'; cases e'
    obtain ⟨sl', e2⟩ := hsl b _ e1 hd
    exact ⟨sl', e2⟩
  · by_cases hb : b ∈ frs outer
    · obtain ⟨o', e', hd, hn⟩ := hfr b hb
      rw [e] at e'; cases e'
      obtain ⟨sl, e1⟩ := F.un.slot b o e hn hb hx
      obtain ⟨sl', e2⟩ := hsl b _ e1 hd
      exact ⟨_, e2⟩
    · obtain ⟨o', e1⟩ := hA b o e hb
      exact ⟨o', hb6 b o' e1⟩
  · obtain ⟨ob, e1⟩ := hT b o e
    have := hb0 b ob e1
    rw [q] at this; cases this
    exact hb6 b _ e1
theorem fly_frames (I : Inv X pins st H s) : ∀ b ∈ frs X.stack, ∃ o, s.heap.get? b = some o ∧ (∀ vs, o.data ≠ .fields vs) ∧ H b = none := fun b hb => by
  obtain ⟨_, o, e, hd⟩ := I.stack.mem hb
  exact ⟨o, e, hd, I.stkFree b hb⟩
/-- an exception of a callee leaves this frame too -/
theorem leave_on (I : Inv X pins st H s) (hs : X.stack = X.env :: X.outer) (hf : X.env.frame = some X.env.locals) (hex : X.ex = []) {e : Value} (F : Fly X.prog X.w X.stack H s cls H' e s')
    (hQ : ∀ s'', Fly X.prog X.w X.outer X.H₀ X.s₀ cls H' e s'' → Q () s'') : wpAny M X.A (leaving X.env e) Q E s' := by
  obtain ⟨ea, a0, B, rfl, fl, hn, hnew, hT, hB, hA⟩ := F.ex
  have fl' : FlyM B (X.env :: X.outer) ea cls a0 s'.heap := by rw [← hs]; exact fl
  refine leaves_m (by rw [← hs]; exact I.ok.frames) hf fl' fun h'' x1 x2 => hQ _ ?_
  obtain ⟨un, hok⟩ := fly_un F hB hT hA fl.1 x1.1 x2 (fly_frames I)
  have nex : ∀ b, b ∉ X.ex := fun b z => by rw [hex] at z; cases z
  have neL : ∀ b o, X.s₀.heap.get? b = some o → b ≠ X.env.locals := fun b o e => Nat.ne_of_lt (Nat.lt_of_lt_of_le (Heap.lt_size e) I.ok.above)
  refine ⟨⟨ea, a0, B, rfl, flym_of x1, hn, ?_, hT, fun b o e n hb => ?_, fun b o e hb => ?_⟩, F.os.trans I.os, F.bare, fly_mk I hs hf hex un, hok⟩
  · cases q : X.s₀.heap.get? ea with
    | none => rfl
    | some u => obtain ⟨v, e⟩ := I.base.there _ _ q (nex _); rw [hnew] at e; cases e
  · exact hB b o (I.base.keep b o e n hb (nex b)) (I.base.free b o e n (nex b)) fun z => ((frs_own hs hf).mp z).elim (neL b o e) hb
  · obtain ⟨o', q⟩ := I.base.there b o e (nex b)
    exact hA b o' q fun z => ((frs_own hs hf).mp z).elim (neL b o e) hb
end

/-! ### a def: what is wanted of its exceptions -/
theorem thr_cx {P : Program} {w : World} {K : PySem.W.Frag} {mg : Str → Option Value} {base : Heap} {N : List Str} {qual : Str} {scope : Scope} {f : Addr} {cd : Value} {A : Around} {outer : List Env} {s : Shared} {H : Hp} {E : XK} {st : St} {cls : Value} {H' : Hp}
    (h : E cls none H') : Thr (cxOf (CXE P w) P w K mg base N qual scope f cd A outer s H E) st cls H' where
  fly := fun pins H1 s1 e s' I F => leave_on I rfl rfl rfl F fun s'' G => ⟨cls, H', G, h⟩
  made := fun pins s1 ea h' args I hx => leave_made I rfl rfl rfl hx fun s'' G => ⟨cls, H', G, h⟩
theorem passes_cx {P : Program} {w : World} {K : PySem.W.Frag} {mg : Str → Option Value} {base : Heap} {N : List Str} {qual : Str} {scope : Scope} {f : Addr} {cd : Value} {A : Around} {outer : List Env} {s : Shared} {H : Hp} {E : XK} :
    PassesOwn (model P w) (cxOf (CXE P w) P w K mg base N qual scope f cd A outer s H E).A (cxOf (CXE P w) P w K mg base N qual scope f cd A outer s H E).env (cxOf (CXE P w) P w K mg base N qual scope f cd A outer s H E).xe := PassesOwn.leaving

/-! ### functions -/
def endK : Fl → M D
  | .nx _ => ret .non
  | .rt d => ret d
  | .xc _ x => fun σ => .ex x σ
  | _ => bad
def runO : Out Fl → Out D
  | .ok fl σ => endK fl σ
  | _ => .bad
def run (n : Nat) (g : Ev → M Fl) (ds : List D) : M D := fun σ => runO (g (ds.map some ++ List.replicate (n - ds.length) none) σ)
def spF (T : Tb) (n : Nat) (f : List D → M D) : Sp := fun vs H Q E => ∃ μ σ ds, RepL T μ H ds vs ∧ ds.length = n ∧ Rel T μ H σ ∧ Post T E (Rep T) μ H (f ds σ) Q
def fnK (n : Nat) (f : List D → M D) (dds : List D) (ds : List D) : M D := if (ds ++ dds).length = n then f (ds ++ dds) else bad
def eFn (n : Nat) (f : List D → M D) (dds : List D) (fs : Ev → M (List D)) : Ev → M D := fun ρ => bnd (fs ρ) (fnK n f dds)
section
variable {T : Tb} {X : Cx}
theorem start_rep {μ : List Addr} {H : Hp} {ds : List D} {vs : List V} {N : List Str} (h : RepL T μ H ds vs) : ERep T μ H (ds.map some ++ List.replicate (N.length - ds.length) none) (L2.start N vs) := by
  have hl := h.length
  refine ⟨by simp [L2.start, hl], fun i d e => ?_⟩
  by_cases hi : i < ds.length
  · rw [List.getElem?_append_left (by simpa using hi), List.getElem?_map] at e
    cases e2 : ds[i]? with
    | none => rw [e2] at e; cases e
    | some x =>
      rw [e2] at e; cases e
      obtain ⟨v, h1, h2⟩ := h.get e2
      refine ⟨v, ?_, h2⟩
      unfold L2.start
      rw [List.getElem?_append_left (by simpa [← hl] using hi), List.getElem?_map, h1]; rfl
  · rw [List.getElem?_append_right (by simpa using hi), List.getElem?_replicate] at e
    split at e <;> cases e
variable {k : Nat} {f C : Addr} {fd : FuncData} {ps : List Str} {dvs : List V} {dval : List Value} {dds : List D} {x : Str} {p pos : Pos} {e : Expr} {es : List Expr} {fn : List D → M D} {fs : Ev → M (List D)} {sp : Sp} {t : TA}
/-- the callee runs -/
theorem run_fnX {pins : List (Addr × Obj)} {st : St} {H : Hp} {s : Shared} {Q : VK} {us : List Value} {vs : List V} (F : FnOk X.prog X.w X.K X.mg X.base (CXE X.prog X.w) k f fd ps sp) (hr : Room k X.A) (hb : Binds X.K fd ps dval) (hd : Vals dvs dval)
    (I : Inv X pins st H s) (r : Vals vs us) (h : sp (vs ++ dvs) H Q (XE X st)) : wpAny (model X.prog X.w) X.A (call (.ref f) us) (EP X pins st Q) X.xe s := by
  have r2 : Vals (vs ++ dvs) (us ++ dval) := r.append hd
  have hl : (us ++ dval).length = ps.length := by rw [← r2.length]; exact F.len _ _ _ _ h
  refine wpAny_call (codeAny_mono (F.run X.A X.stack s H ⟨us, []⟩ (us ++ dval) (vs ++ dvs) Q (XE X st) hr I.env0 (hb s us I.kIn hl) r2 h) fun r s' hq => ?_)
  cases r with
  | error e => obtain ⟨cls, H', hfly, ht⟩ := hq; exact ht.fly pins H s e s' I hfly
  | ok fl =>
    cases fl with
    | ret u => exact I.after hq
    | next => exact False.elim hq
    | brk => exact False.elim hq
    | cont => exact False.elim hq
theorem fe_call (F : FnOk X.prog X.w X.K X.mg X.base (CXE X.prog X.w) k f fd ps (spF T ps.length fn)) (hr : Room k X.A) (hg : Gl X x) (hm : X.mg x = some (.ref f)) (hk : PySem.W.keepIn X.K (.ref f) = true) (hb : Binds X.K fd ps dval) (hd : Vals dvs dval) (hdd : ∀ μ H, RepL T μ H dds dvs)
    (ha : FA T X (e :: es) fs) (hdb : (x == ("__debug__" : Str)) = false := by decide) (he : starEach (e :: es) X.env = (false, eval e X.env) :: starEach es X.env := by rfl) (hpl : (backTo pos (starEach es X.env)).any (·.1) = false := by rfl) :
    FE T X (.Call (.Name x p) (e :: es) [] pos) (eFn ps.length fn dds fs) := by
  intro pins s st H Q I h
  refine wpAny_Call_Name_kw (ld_glob I hg hm ?_ hdb)
  obtain ⟨μ, ρ, σ, hE, hr', hp⟩ := h
  refine PySem.W.callWith_K (h₀ := X.base) I.ok.mod.kin hk (thn (ha pos pins s st H (fun vs H1 => spF T ps.length fn (vs ++ dvs) H1 Q (XE X st)) I ⟨μ, ρ, σ, hE, hr', hp.bind fun ds σ1 μ1 vs H1 _ e1 r1 p1 q1 => ?_⟩) fun us s1 ⟨vs, H1, I1, r, q⟩ => ⟨I1.kIn, ?_⟩) he hpl
  · unfold fnK at q1
    by_cases hl : (ds ++ dds).length = ps.length
    · rw [if_pos hl] at q1
      exact ⟨μ1, σ1, ds ++ dds, p1.append (hdd _ _), hl, r1, q1⟩
    · rw [if_neg hl] at q1; exact q1.elim
  · exact run_fnX F hr hb hd I1 r q
variable {P : Program} {w : World} {K : PySem.W.Frag} {mg : Str → Option Value} {base : Heap}
/-- a def by its body -/
theorem fok {x qual : Str} {st : Stmt} {N : List Str} {g : Ev → M Fl} {params : Arguments} {dV kV doc pm cdv ct oc : Value} {an od : Option Addr} {osl : Array (Option Value)}
    (lk : K.lookup f = some ⟨oc, od, .func (PySem.W.fnOf x qual params (defBody st) (defScope st) dV kV doc pm an cdv ct), osl⟩) (hcd : PySem.W.codeIn K cdv qual = true) (S : FnScope N ps (defScope st))
    (hb : ∀ (A : Around) (outer : List Env) (s : Shared) (H : Hp) (E : XK), Room k (A.deeper (envOfC qual (defScope st) s.heap.objs.size f cdv)) → FSs T (cxOf (CXE P w) P w K mg base N qual (defScope st) f cdv A outer s H E) (defBody st) g) :
    FnOk P w K mg base (CXE P w) (k + 1) f (PySem.W.fnOf x qual params (defBody st) (defScope st) dV kV doc pm an cdv ct) ps (spF T ps.length (run N.length g)) := by
  refine fn_of lk hcd S (fun vs H Q E h => ?_) (fun A outer s H vs Q E hr h => ?_)
  · obtain ⟨μ, σ, ds, h1, h2, _⟩ := h
    rw [← h1.length]; exact h2
  · obtain ⟨μ, σ, ds, h1, h2, h3, h4⟩ := h
    refine ⟨_, hb A outer s H E hr, μ, _, σ, start_rep h1, h3, ?_⟩
    unfold run at h4
    cases eg : g (ds.map some ++ List.replicate (N.length - ds.length) none) σ with
    | bad => rw [eg] at h4; exact h4
    | ex x σ1 => rw [eg] at h4; exact h4.elim
    | ok fl σ1 =>
      rw [eg] at h4
      intro μ1 gl H1 e1 r1 q1
      have p1 := h4.mono e1
      cases fl with
      | nx ρ2 => cases gl with
        | nx st2 => have z : Q V.non H1 := Post.here (d := D.non) p1 r1 (by rw [Rep]); exact z
        | _ => exact q1.elim
      | rt d2 => cases gl with
        | rt v2 => have z : Q v2 H1 := Post.here (d := d2) p1 r1 q1; exact z
        | _ => exact q1.elim
      | xc ρ2 x2 => cases gl with
        | xc st2 c2 =>
          obtain ⟨_, rfl⟩ := q1
          exact thr_cx (p1 μ1 H1 (Ext.refl _ _) r1)
        | _ => exact q1.elim
      | _ => exact p1.elim
/-- .. what it made being data -/
theorem fok_frz (F : FnOk P w K mg base (CXE P w) k f fd ps (spF T ps.length fn)) : FnOk P w K mg base (CXE P w) k f fd ps (spF T ps.length (fun ds => frz (fn ds))) :=
  F.imp fun vs H Q E h => by
    obtain ⟨μ, σ, ds, h1, h2, h3, h4⟩ := h
    exact ⟨μ, σ, ds, h1, h2, h3, Post.frz h3 h4⟩
end
end L4

namespace L4
open PySem PySem.Spec PyProof.Rows L2

/-! ### a comprehension's cells -/
def clOf (env : Env) (names : List (Str × NameKind)) (acc : List (Str × Addr)) : List (Str × Addr) :=
  names.foldl (fun cs y => if (y.2 == .free) = true then (match env.cells.lookup y.1 with | some c => (y.1, c) :: cs | none => cs) else cs) acc
theorem closure_go (env : Env) : ∀ (names : List (Str × NameKind)) (acc : List (Str × Addr)), (∀ y ∈ names, y.2 = .free → ∃ c, env.cells.lookup y.1 = some c) →
    (forIn names acc (fun x (cs : List (Str × Addr)) => match x with | (name, kind) => if (kind == .free) = true then (do let a ← cellOf env name; pure (ForInStep.yield ((name, a) :: cs))) else pure (ForInStep.yield cs)) : Sem (List (Str × Addr))) = pure (clOf env names acc)
  | [], acc, _ => rfl
  | (n, k) :: r, acc, h => by
    rw [List.forIn_cons]
    by_cases hk : (k == NameKind.free) = true
    · obtain ⟨c, hc⟩ := h (n, k) List.mem_cons_self (by simpa using hk)
      have e1 : cellOf env n = pure c := by unfold cellOf; rw [hc]
      simp only [hk, if_true, e1]
      show (forIn r ((n, c) :: acc) _ : Sem (List (Str × Addr))) = _
      rw [closure_go env r ((n, c) :: acc) fun y hy => h y (List.mem_cons_of_mem _ hy)]
      have e2 : clOf env ((n, k) :: r) acc = clOf env r ((n, c) :: acc) := by
        unfold clOf; rw [List.foldl_cons]; simp only [hk, if_true, hc]
      rw [e2]
    · simp only [hk]
      show (forIn r acc _ : Sem (List (Str × Addr))) = _
      rw [closure_go env r acc fun y hy => h y (List.mem_cons_of_mem _ hy)]
      have e2 : clOf env ((n, k) :: r) acc = clOf env r acc := by
        unfold clOf; rw [List.foldl_cons]; simp only [hk]; rfl
      rw [e2]
theorem closure_is (env : Env) (scope : Scope) (h : ∀ y ∈ scope.names, y.2 = .free → ∃ c, env.cells.lookup y.1 = some c) : closureFor scope env = pure (clOf env scope.names []) := by
  have e := closure_go env scope.names [] h
  unfold closureFor
  simp only [bind_pure]
  exact e
theorem cl_sub (env : Env) : ∀ (names : List (Str × NameKind)) (acc : List (Str × Addr)) (n : Str) (c : Addr), (∀ n c, acc.lookup n = some c → env.cells.lookup n = some c) → (clOf env names acc).lookup n = some c → env.cells.lookup n = some c
  | [], acc, n, c, h, e => h n c e
  | (y, k) :: r, acc, n, c, h, e => by
    unfold clOf at e
    rw [List.foldl_cons] at e
    refine cl_sub env r _ n c (fun n c q => ?_) e
    by_cases hk : (k == NameKind.free) = true
    · simp only [hk, if_true] at q
      cases hc : env.cells.lookup y with
      | none => rw [hc] at q; exact h n c q
      | some c' =>
        rw [hc] at q
        rw [List.lookup_cons] at q
        cases hn : (n == y) with
        | true => rw [hn] at q; cases q; rw [eq_of_beq hn]; exact hc
        | false => rw [hn] at q; exact h n c q
    · simp only [hk] at q; exact h n c q
theorem cl_keep (env : Env) : ∀ (names : List (Str × NameKind)) (acc : List (Str × Addr)) (n : Str), (∃ c, acc.lookup n = some c) → ∃ c, (clOf env names acc).lookup n = some c
  | [], acc, n, h => h
  | (y, k) :: r, acc, n, h => by
    unfold clOf
    rw [List.foldl_cons]
    refine cl_keep env r _ n ?_
    by_cases hk : (k == NameKind.free) = true
    · simp only [hk, if_true]
      cases hc : env.cells.lookup y with
      | none => exact h
      | some c' =>
        show ∃ c, List.lookup n ((y, c') :: acc) = some c
        rw [List.lookup_cons]
        cases hn : (n == y) with
        | true => exact ⟨c', rfl⟩
        | false => exact h
    · simp only [hk]; exact h
theorem cl_has (env : Env) : ∀ (names : List (Str × NameKind)) (acc : List (Str × Addr)) (n : Str), (n, NameKind.free) ∈ names → (∃ c, env.cells.lookup n = some c) → ∃ c, (clOf env names acc).lookup n = some c
  | [], acc, n, h, _ => nomatch h
  | (y, k) :: r, acc, n, h, hc => by
    unfold clOf
    rw [List.foldl_cons]
    rcases List.mem_cons.mp h with e | e
    · cases e
      refine cl_keep env r _ _ ?_
      obtain ⟨c, hc⟩ := hc
      refine ⟨c, ?_⟩
      simp [hc]
    · exact cl_has env r _ n e hc
theorem relabel_lookup {env : Env} : ∀ {names : List (Str × NameKind)} {x : Str} {k : NameKind},
    (names.map fun (n, k) => if (k == NameKind.free && env.scope.kind == .function && env.kindOf n == some .cell) then (n, NameKind.cell) else (n, k)).lookup x = some k → ∃ k0, names.lookup x = some k0 ∧ (k = k0 ∨ (k0 = .free ∧ k = .cell))
  | [], _, _, h => by simp at h
  | (n, k0) :: r, x, k, h => by
    have ih := @relabel_lookup env r x k
    have h' : List.lookup x ((if (k0 == NameKind.free && env.scope.kind == .function && env.kindOf n == some .cell) = true then (n, NameKind.cell) else (n, k0)) :: (r.map fun (n, k) => if (k == NameKind.free && env.scope.kind == .function && env.kindOf n == some .cell) then (n, NameKind.cell) else (n, k))) = some k := h
    cases hx : x == n with
    | true =>
      by_cases hc : (k0 == NameKind.free && env.scope.kind == .function && env.kindOf n == some .cell) = true
      · rw [if_pos hc] at h'
        simp only [List.lookup_cons, hx] at h' ⊢
        cases h'
        simp only [Bool.and_eq_true] at hc
        exact ⟨k0, rfl, .inr ⟨by simpa using hc.1.1, rfl⟩⟩
      · rw [if_neg hc] at h'
        simp only [List.lookup_cons, hx] at h' ⊢
        cases h'
        exact ⟨k0, rfl, .inl rfl⟩
    | false =>
      by_cases hc : (k0 == NameKind.free && env.scope.kind == .function && env.kindOf n == some .cell) = true
      · rw [if_pos hc] at h'; simp only [List.lookup_cons, hx] at h' ⊢; exact ih h'
      · rw [if_neg hc] at h'; simp only [List.lookup_cons, hx] at h' ⊢; exact ih h'
theorem relabel_free {env : Env} : ∀ {names : List (Str × NameKind)} {x : Str}, names.lookup x = some .free →
    (names.map fun (n, k) => if (k == NameKind.free && env.scope.kind == .function && env.kindOf n == some .cell) then (n, NameKind.cell) else (n, k)).lookup x = some .cell ∨
    (names.map fun (n, k) => if (k == NameKind.free && env.scope.kind == .function && env.kindOf n == some .cell) then (n, NameKind.cell) else (n, k)).lookup x = some .free
  | [], _, h => by simp at h
  | (n, k) :: r, x, h => by
    have ih := @relabel_free env r x
    have goal : ∀ z, List.lookup x ((if (k == NameKind.free && env.scope.kind == .function && env.kindOf n == some .cell) = true then (n, NameKind.cell) else (n, k)) :: (r.map fun (n, k) => if (k == NameKind.free && env.scope.kind == .function && env.kindOf n == some .cell) then (n, NameKind.cell) else (n, k))) = z →
      (List.map (fun (n, k) => if (k == NameKind.free && env.scope.kind == .function && env.kindOf n == some .cell) then (n, NameKind.cell) else (n, k)) ((n, k) :: r)).lookup x = z := fun z e => e
    cases hx : x == n with
    | true =>
      simp only [List.lookup_cons, hx] at h
      cases h
      by_cases hc : (NameKind.free == NameKind.free && env.scope.kind == .function && env.kindOf n == some .cell) = true
      · exact .inl (goal _ (by rw [if_pos hc]; simp only [List.lookup_cons, hx]))
      · exact .inr (goal _ (by rw [if_neg hc]; simp only [List.lookup_cons, hx]))
    | false =>
      simp only [List.lookup_cons, hx] at h
      have e : List.lookup x ((if (k == NameKind.free && env.scope.kind == .function && env.kindOf n == some .cell) = true then (n, NameKind.cell) else (n, k)) :: (r.map fun (n, k) => if (k == NameKind.free && env.scope.kind == .function && env.kindOf n == some .cell) then (n, NameKind.cell) else (n, k))) =
          (r.map fun (n, k) => if (k == NameKind.free && env.scope.kind == .function && env.kindOf n == some .cell) then (n, NameKind.cell) else (n, k)).lookup x := by
        by_cases hc : (k == NameKind.free && env.scope.kind == .function && env.kindOf n == some .cell) = true
        · rw [if_pos hc]; simp only [List.lookup_cons, hx]
        · rw [if_neg hc]; simp only [List.lookup_cons, hx]
      rcases ih h with q | q
      · exact .inl (goal _ (e.trans q))
      · exact .inr (goal _ (e.trans q))
theorem mem_of_lk {names : List (Str × NameKind)} {x : Str} {k : NameKind} (h : names.lookup x = some k) : (x, k) ∈ names := PySem.mem_of_lookup h

/-! ### the block -/
def blk (X : Cx) (N' : List Str) (scope : Scope) (cl : List (Str × Addr)) (C : Addr) (s₀ : Shared) (H₀ : Hp) (ex : List Addr) : Cx :=
  { X with N := N', s₀ := s₀, H₀ := H₀, env := compEnvC scope cl C X.env, outer := X.stack, stack := X.stack, ex := ex, fn := fun _ => false, pn := [], xe := fun _ _ => False }
/-- what of the scopes a comprehension's rule asks; each by rfl -/
structure LcOk (X : Cx) (x : Str) (M' : List Str) (ix : List Nat) (scope : Scope) : Prop where
  kind : scope.kind = .function
  cell : (scope.names.all fun y => !(y.2 == .cell)) = true
  names : (scope.names.all fun y => !(y.2 == .local) || scope.names.lookup y.1 == some .local) = true
  free : (scope.names.all fun y => !(y.2 == .free) || (X.env.scope.names.lookup y.1 == some .cell || X.env.scope.names.lookup y.1 == some .free)) = true
  at_ : ix.map (fun i => X.N[i]?) = M'.map some
  vis : (M'.all fun y => (X.env.scope.names.lookup y == some .cell || X.env.scope.names.lookup y == some .free) && scope.names.lookup y == some .free) = true
def blkEv (ix : List Nat) (ρ : Ev) : Ev := none :: ix.map fun i => (ρ[i]?).getD none
def blkSt (ix : List Nat) (st : St) : St := none :: ix.map fun i => (st[i]?).getD none
theorem blk_rep {T : Tb} {μ : List Addr} {H : Hp} {ρ : Ev} {st : St} (ix : List Nat) (h : ERep T μ H ρ st) : ERep T μ H (blkEv ix ρ) (blkSt ix st) := by
  refine ⟨by simp [blkEv, blkSt], fun i d e => ?_⟩
  cases i with
  | zero => simp [blkEv] at e
  | succ j =>
    have e' : (ix.map fun i => (ρ[i]?).getD none)[j]? = some (some d) := e
    rw [List.getElem?_map] at e'
    cases ej : ix[j]? with
    | none => rw [ej] at e'; cases e'
    | some i0 =>
      rw [ej] at e'
      have e2 : (ρ[i0]?).getD none = some d := Option.some.inj e'
      have e3 : ρ[i0]? = some (some d) := by
        cases q : ρ[i0]? with
        | none => rw [q] at e2; cases e2
        | some o => rw [q] at e2; exact congrArg some e2
      obtain ⟨v, h1, h2⟩ := h.2 i0 d e3
      refine ⟨v, ?_, h2⟩
      show (ix.map fun i => (st[i]?).getD none)[j]? = _
      rw [List.getElem?_map, ej]
      show some ((st[i0]?).getD none) = _
      rw [h1]; rfl
section
variable {X : Cx} {pins : List (Addr × Obj)} {st : St} {H : Hp} {s : Shared} {x : Str} {M' : List Str} {ix : List Nat} {scope : Scope} {fp : List Addr}
theorem free_of (L : LcOk X x M' ix scope) (y : Str × NameKind) (hy : y ∈ scope.names) (e : y.2 = .free) : X.env.kindOf y.1 = some .cell ∨ X.env.kindOf y.1 = some .free := by
  have q := List.all_eq_true.mp L.free y hy
  rw [e] at q
  simp only [beq_self_eq_true, Bool.not_true, Bool.false_or, Bool.or_eq_true] at q
  rcases q with q | q
  · exact .inl (eq_of_beq q)
  · exact .inr (eq_of_beq q)
theorem clos_of (I : Inv X pins st H s) (L : LcOk X x M' ix scope) : ∀ y ∈ scope.names, y.2 = .free → ∃ c, X.env.cells.lookup y.1 = some c := fun y hy e => I.ok.has y.1 (free_of L y hy e)
theorem nocell (L : LcOk X x M' ix scope) : ∀ y ∈ scope.names, y.2 ≠ .cell := fun y hy e => by
  have q := List.all_eq_true.mp L.cell y hy
  rw [e] at q
  simp at q
/-- the block's beginning -/
theorem blk_start (I : Inv X pins st H s) (L : LcOk X x M' ix scope) (hfp : ∀ b ∈ fp, FpOk X pins H b ∧ b < s.heap.objs.size) {h' : Heap} {t' : Nat} {m : Str → Option Value} (hns : h'.Ns s.heap.objs.size m)
    (hk : ∀ b o, s.heap.get? b = some o → h'.get? b = some o) :
    Inv (blk X (x :: M') scope (clOf X.env scope.names []) s.heap.objs.size s H fp) [] (blkSt ix st) H { s with heap := h', toks := t' } := by
  have sub : ∀ n c, (clOf X.env scope.names []).lookup n = some c → X.env.cells.lookup n = some c := fun n c e => cl_sub X.env scope.names [] n c (fun _ _ q => by simp at q) e
  have cellLt : ∀ n c, X.env.cells.lookup n = some c → c < s.heap.objs.size := fun n c e => by obtain ⟨v, z⟩ := I.cell n c e; exact z.lt
  have fresh : H s.heap.objs.size = none := I.hok.fresh (Nat.le_refl _)
  refine ⟨⟨I.ok.mod, L.kind, I.ok.glob, I.ok.blt, Nat.le_refl _, fun a b c h1 h2 => I.ok.inj a b c (sub a c h1) (sub b c h2), fun a ha => ?_, fun a c h => (by cases h), I.ok.hd, I.ok.frames, .inl rfl, fun b hb => ⟨Nat.ne_of_lt (hfp b hb).2, fun a c e => ?_⟩, fun b o e => I.bs b o e, Nat.le_trans I.ok.bsz I.sz, fun b o e hb => ?_, fun b hb z => ?_, I.stack, I.stkFree⟩,
    rfl, I.bare, Un.kept hk, ⟨m, hns, fun i y v e1 e2 e3 => ?_⟩, fun a c e => ?_, fresh, fun a c e => I.freeC a c (sub a c e), fun p hp => absurd (show p ∈ ([] : List (Addr × Obj)) from hp) (by simp), I.hok.kept hk, ?_⟩
  · -- has
    have ha' : (scope.names.map fun (n, k) => if (k == NameKind.free && X.env.scope.kind == .function && X.env.kindOf n == some .cell) then (n, NameKind.cell) else (n, k)).lookup a = some .cell ∨ (scope.names.map fun (n, k) => if (k == NameKind.free && X.env.scope.kind == .function && X.env.kindOf n == some .cell) then (n, NameKind.cell) else (n, k)).lookup a = some .free := ha
    have hf : scope.names.lookup a = some .free := by
      rcases ha' with z | z
      · obtain ⟨k0, h1, h2⟩ := relabel_lookup z
        rcases h2 with h2 | ⟨h2, _⟩
        · subst h2; exact absurd rfl (nocell L _ (mem_of_lk h1))
        · rw [h2] at h1; exact h1
      · obtain ⟨k0, h1, h2⟩ := relabel_lookup z
        rcases h2 with h2 | ⟨_, h2⟩
        · rw [← h2] at h1; exact h1
        · cases h2
    exact cl_has X.env scope.names [] a (mem_of_lk hf) (clos_of I L _ (mem_of_lk hf) rfl)
  · exact (hfp b hb).1.2.2.2.2.1 a c (sub a c e)
  · rcases (hfp b hb).1.2.2.2.1 with z | z
    · exact I.ok.noex b o e z
    · exact absurd (Nat.lt_of_lt_of_le (Heap.lt_size e) (Nat.le_trans I.ok.bsz z)) (Nat.lt_irrefl _)
  · rcases List.mem_cons.mp (I.stkSub b z) with q | q
    · exact (hfp b hb).1.2.1 q
    · exact (hfp b hb).1.2.2.1 q
  · -- loc
    cases i with
    | zero => simp [blkSt] at e2
    | succ j =>
      have e1' : M'[j]? = some y := e1
      have e2' : (ix.map fun i => (st[i]?).getD none)[j]? = some (some v) := e2
      rw [List.getElem?_map] at e2'
      cases ej : ix[j]? with
      | none => rw [ej] at e2'; cases e2'
      | some i0 =>
        rw [ej] at e2'
        have e4 : (st[i0]?).getD none = some v := Option.some.inj e2'
        have e5 : st[i0]? = some (some v) := by
          cases q : st[i0]? with
          | none => rw [q] at e4; cases e4
          | some o => rw [q] at e4; exact congrArg some e4
        have e6 : X.N[i0]? = some y := by
          have z := congrArg (fun l => l[j]?) L.at_
          simp only [List.getElem?_map, ej, e1', Option.map_some] at z
          exact Option.some.inj z
        have q := List.all_eq_true.mp L.vis y (List.mem_of_getElem? e1')
        simp only [Bool.and_eq_true, Bool.or_eq_true] at q
        have kx : X.env.scope.names.lookup y = some .cell ∨ X.env.scope.names.lookup y = some .free := by
          rcases q.1 with z | z
          · exact .inl (eq_of_beq z)
          · exact .inr (eq_of_beq z)
        have ky : scope.names.lookup y = some .free := eq_of_beq q.2
        obtain ⟨m0, hn0, hl0⟩ := I.loc
        obtain ⟨u, ru, lu⟩ := hl0 i0 y v e6 e5 (by rcases kx with z | z; exact .inr (.inl z); exact .inr (.inr z))
        refine ⟨u, ru, .inr ⟨relabel_free (env := X.env) ky, ?_⟩⟩
        rcases lu with ⟨z, _⟩ | ⟨_, c, ec, zc⟩
        · rcases kx with k | k
          · rw [show X.env.kindOf y = X.env.scope.names.lookup y from rfl, k] at z; cases z
          · rw [show X.env.kindOf y = X.env.scope.names.lookup y from rfl, k] at z; cases z
        · obtain ⟨c', hc'⟩ := cl_has X.env scope.names [] y (mem_of_lk ky) (clos_of I L _ (mem_of_lk ky) rfl)
          have e7 := sub y c' hc'
          rw [ec] at e7; cases e7
          obtain ⟨o, ho, hd⟩ := zc
          exact ⟨c, hc', o, hk _ _ ho, hd⟩
  · obtain ⟨v, o, ho, hd⟩ := I.cell a c (sub a c e)
    exact ⟨v, o, hk _ _ ho, hd⟩
  · simp [blkSt, blk]
    have z := congrArg List.length L.at_
    simpa using z
end
end L4

namespace L4
open PySem PySem.Spec PyProof.Rows L2

/-! ### the comprehension -/
def nox {α : Type} (m : M α) : M α := fun σ => match m σ with
  | .ex _ _ => .bad
  | o => o
theorem Post.bind0 {α β γ δ : Type} {T : Tb} {E E0 : XK} {R : List Addr → Hp → α → γ → Prop} {R' : List Addr → Hp → β → δ → Prop} {μ : List Addr} {H : Hp} {m : M α} {k : α → M β} {σ : Sto} {Q : δ → Hp → Prop} {Q1 : γ → Hp → Prop}
    (h : Post T E R' μ H (bnd (nox m) k σ) Q) (f : ∀ a σ1 μ1 g H1, m σ = .ok a σ1 → Ext μ H μ1 H1 → Rel T μ1 H1 σ1 → R μ1 H1 a g → Post T E R' μ1 H1 (k a σ1) Q → Q1 g H1) : Post T E0 R μ H (m σ) Q1 := by
  unfold bnd nox at h
  cases e : m σ with
  | ok a σ1 =>
    simp only [e] at h
    exact fun μ' g H' e' r q => f a σ1 μ' g H' e e' r q (h.mono e')
  | ex x σ1 => simp only [e] at h; exact h.elim
  | bad => simp only [e] at h; exact h
def lcLoop (nx : Src) (n : Nat) (tg : D → Ev → Option Ev) (fi : Ev → M Bool) (fe : Ev → M D) : Nat → Nat → Ev → M Unit
  | 0, _, _ => bad
  | k + 1, i, ρ => fun σ => match nx.nx i σ with
    | none => .bad
    | some none => .ok () σ
    | some (some d) => match tg d ρ with
      | none => .bad
      | some ρ1 => bnd (nox (fi ρ1)) (fun c => if c = true then bnd (nox (fe ρ1)) fun y => bnd (oAppend (.ref n) [y]) fun _ => lcLoop nx n tg fi fe k (i + 1) ρ1 else lcLoop nx n tg fi fe k (i + 1) ρ1) σ
def lcK (tg : D → Ev → Option Ev) (fi : Ev → M Bool) (fe : Ev → M D) (ρ : Ev) (nx : Src) : M D := fun σ =>
  bnd (lcLoop nx σ.length tg fi fe 1001 0 ρ) (fun _ => ret (.ref σ.length)) (σ ++ [.lst []])
def eLC (src : Ev → M Src) (ix : List Nat) (tg : D → Ev → Option Ev) (fi : Ev → M Bool) (fe : Ev → M D) : Ev → M D := fun ρ => bnd (src ρ) (lcK tg fi fe (blkEv ix ρ))
def FIf (T : Tb) (X : Cx) (ifs : List Expr) (f : Ev → M Bool) : Prop :=
  ∀ (pins : List (Addr × Obj)) (s : Shared) (st : St) (H : Hp) (Q : Bool → Hp → Prop), Inv X pins st H s → tT T X f st H Q →
    wpAny (model X.prog X.w) X.A (forIn ifs true fun c r => if r = true then do let ok ← isTrue c X.env (eval c X.env); pure (ForInStep.yield ok) else pure (ForInStep.yield r)) (TP X pins st Q) X.xe s
def bTrue : Ev → M Bool := fun _ => ret true
section
variable {T : Tb} {X : Cx}
theorem fif_nil : FIf T X [] bTrue := by
  intro pins s st H Q I h
  obtain ⟨μ, ρ, σ, hE, hr, hp⟩ := h
  exact wpAny_tests_nil ⟨H, I, Post.here hp hr rfl⟩
theorem un_same {fs ex : List Addr} {H H' : Hp} {h h1 h2 : Heap} {C : Addr} (u : Un fs ex H H' h h1) (hs : Heap.SameBut C h1 h2) (hC : h.objs.size ≤ C) : Un fs ex H H' h h2 := by
  have ne : ∀ b o, h.get? b = some o → b ≠ C := fun b o e => Nat.ne_of_lt (Nat.lt_of_lt_of_le (Heap.lt_size e) hC)
  refine ⟨fun b o e n hb hx => (hs.2 b (ne b o e)).trans (u.keep b o e n hb hx), fun b o e n hb hx => ?_, u.free, fun b o e hx => ?_, u.tups, u.frzs, u.tbls⟩
  · obtain ⟨sl, q⟩ := u.slot b o e n hb hx
    exact ⟨sl, (hs.2 b (ne b o e)).trans q⟩
  · obtain ⟨o', q⟩ := u.there b o e hx
    exact ⟨o', (hs.2 b (ne b o e)).trans q⟩
theorem hok_same {P : Program} {w : World} {H : Hp} {h1 h2 : Heap} {C : Addr} (ok : HOk P w H h1) (hs : Heap.SameBut C h1 h2) (hC : H C = none) : HOk P w H h2 := fun b ob e => by
  refine (ok b ob e).stay (fun c w' hc q => (hs.2 c ?_).trans q) (fun _ q => q) fun _ _ q => q
  rintro rfl
  rcases hc with rfl | hc
  · rw [hC] at e; cases e
  · rw [hC] at hc; cases hc
theorem app_rel {E : XK} {μ : List Addr} {H : Hp} {σ : Sto} {n : Nat} {a : Addr} {y : D} {v : V} {Q : VK} (r : Rel T μ H σ) (hn : μ[n]? = some a) (hy : Rep T μ H y v) (h : Post T E (Rep T) μ H (oAppend (.ref n) [y] σ) Q) : rAppend (.ref a) [v] H Q :=
  snd_append E μ H σ (.ref n) [y] (.ref a) [v] Q r (by rw [Rep]; exact ⟨a, rfl, hn⟩) (RepL.cons hy RepL.nil) h
theorem bnd_congr {α β : Type} {m m' : M α} {k : α → M β} {σ : Sto} (h : m σ = m' σ) : bnd m k σ = bnd m' k σ := by unfold bnd; rw [h]
theorem bnd_assoc {α β γ : Type} {m : M α} {k : α → M β} {l : β → M γ} : bnd (bnd m k) l = bnd m fun a => bnd (k a) l := by
  funext σ; unfold bnd; cases m σ <;> rfl
theorem lc_core {E : XK} {elt iter tgt : Expr} {ifs : List Expr} {scope : Scope} {pos : Pos} {x : Str} {M' : List Str} {ix : List Nat} {tg : D → Ev → Option Ev} {fi : Ev → M Bool} {fe : Ev → M D}
    {pins : List (Addr × Obj)} {st : St} {H3 : Hp} {s3 : Shared} {h₁ : Heap} {t' : Nat} {m : Str → Option Value} {fp : List Addr} {it D0 : Addr} {tn : Nat → Heap → Prop} {J : It} {nx : Src} {μ3 : List Addr} {σ3 : Sto} {ρ : Ev} {n : Nat} {Q : VK}
    (hc : X.calm = true) (L : LcOk X x M' ix scope)
    (htg : ∀ cl C s₀ H₀ ex, FG T (blk X (x :: M') scope cl C s₀ H₀ ex) tgt tg)
    (hif : ∀ cl C s₀ H₀ ex, FIf T (blk X (x :: M') scope cl C s₀ H₀ ex) ifs fi)
    (helt : ∀ cl C s₀ H₀ ex, FE T (blk X (x :: M') scope cl C s₀ H₀ ex) elt fe)
    (I3 : Inv X pins st H3 s3) (hfp : ∀ b ∈ fp, FpOk X pins H3 b ∧ b < s3.heap.objs.size) (hns : h₁.Ns s3.heap.objs.size m) (kp : ∀ b o, s3.heap.get? b = some o → h₁.get? b = some o)
    (TT : Turn X.prog X.w X.K tgt J fp it tn) (hst4 : tn 0 h₁) (so : SrcOk T μ3 H3 nx J) (hE : ERep T μ3 H3 ρ st) (r3 : Rel T μ3 H3 σ3) (hn : μ3[n]? = some D0)
    (p3 : Post T E (Rep T) μ3 H3 (bnd (lcLoop nx n tg fi fe 1001 0 (blkEv ix ρ)) (fun _ => ret (.ref n)) σ3) Q) {RR : Result → Shared → Prop}
    (fin : ∀ (s6 : Shared) (H' : Hp) (m6 : Str → Option Value), s6.heap.Ns s3.heap.objs.size m6 → H' s3.heap.objs.size = none → Un (frs X.stack) fp H3 H' s3.heap s6.heap → s6.os = s3.os → HOk X.prog X.w H' s6.heap → AllBare s6.gens → Q (.ref D0) H' → RR (.ok .next) s6) :
    codeAny (model X.prog X.w) X.A (.compStart (.ListComp elt [⟨tgt, iter, ifs, 0⟩] scope pos) 0 (.ref it) (.ref D0) (compEnvC scope (clOf X.env scope.names []) s3.heap.objs.size X.env))
      RR { s3 with heap := h₁, toks := t' } := by
  have I4 := blk_start (h' := h₁) (t' := t') I3 L hfp hns kp
  let Y : Cx := blk X (x :: M') scope (clOf X.env scope.names []) s3.heap.objs.size s3 H3 fp
  have stat : ∀ {H' : Hp}, (∀ b ∈ fp, H' b = none) → ∀ b ∈ fp, FpOk Y [] H' b := fun {H'} hn b hb => ⟨hn b hb, (I4.ok.exf b hb).1, I4.ok.exfs b hb, .inl hb, (I4.ok.exf b hb).2, fun p hp => absurd (show p ∈ ([] : List (Addr × Obj)) from hp) (by simp)⟩
  have loop : codeAny (model X.prog X.w) X.A (.compLoop (.ListComp elt [⟨tgt, iter, ifs, 0⟩] scope pos) 0 (.ref it) (.ref D0) Y.env) RR { s3 with heap := h₁, toks := t' } := by
    refine codeAny_loop rfl (fun k s' => ∃ i μ' H' σ' ρ' st', Inv Y [] st' H' s' ∧ tn i s'.heap ∧ (∀ b ∈ fp, H' b = none) ∧ Ext μ3 H3 μ' H' ∧ ERep T μ' H' ρ' st' ∧ Rel T μ' H' σ' ∧
      Post T E (Rep T) μ' H' (bnd (lcLoop nx n tg fi fe k i ρ') (fun _ => ret (.ref n)) σ') Q) ?_ 1001 ⟨0, μ3, H3, σ3, blkEv ix ρ, blkSt ix st, I4, hst4, fun b hb => (hfp b hb).1.1, Ext.refl _ _, blk_rep ix hE, r3, p3⟩
    rintro k s' ⟨i, μ', H', σ', ρ', st', I', tn', fr', ex', hE', r', p'⟩
    show wpAny _ X.A ((compTurn (.ListComp elt [⟨tgt, iter, ifs, 0⟩] scope pos) 0 (.ref it) (.ref D0) Y.env).onRaise (fun x => do noteFrame x Y.env; theTreesLotGoes x)) _ _ s'
    refine wpAny_noted ?_
    rw [compTurn_list]
    refine wpAny_mono (E := fun _ _ => False) ?_ (fun _ _ z => z) (fun _ _ z => z.elim)
    refine wpAny_bind (wpAny_standAt ?_)
    cases k with
    | zero => exact p'.elim
    | succ k =>
      have so' := so μ' H' σ' i ex' r'
      cases en : nx.nx i σ' with
      | none =>
        have e1 : lcLoop nx n tg fi fe (k + 1) i ρ' σ' = .bad := by unfold lcLoop; simp only [en]
        rw [bnd_congr (m' := bad) e1] at p'
        exact p'.elim
      | some od =>
        rw [en] at so'
        cases od with
        | none =>
          have e1 : lcLoop nx n tg fi fe (k + 1) i ρ' σ' = .ok () σ' := by unfold lcLoop; simp only [en]
          rw [bnd_congr (m' := ret ()) e1] at p'
          refine wpAny_bind (thn (TT.done Y rfl rfl rfl hc i [] s' st' H' (fun _ _ => False) I' (stat fr') tn' so') fun r s6 ⟨er, I6⟩ => ?_)
          subst er
          refine wpAny_pure ?_
          obtain ⟨m6, hm6, _⟩ := I6.loc
          exact fin s6 H' m6 hm6 I6.free I6.base I6.os I6.hok I6.bare (Post.here p' r' (by rw [Rep]; exact ⟨_, rfl, ex'.get hn⟩))
        | some d =>
          refine wpAny_bind (thn (TT.item Y rfl rfl rfl hc i [] s' st' H' (fun _ _ => False) I' (stat fr') tn' so'.1) fun r s6 ⟨u, er, h6⟩ => ?_)
          subst er
          refine wpAny_bind (thn h6 fun _ s7 ⟨xv, H7, I7, r7, y7, tn7, fr7⟩ => ?_)
          obtain ⟨eH, hd⟩ := so'.2 xv H7 y7
          subst eH
          cases et : tg d ρ' with
          | none =>
            have e1 : lcLoop nx n tg fi fe (k + 1) i ρ' σ' = .bad := by unfold lcLoop; simp only [en, et]
            rw [bnd_congr (m' := bad) e1] at p'
            exact p'.elim
          | some ρ1 =>
            have e1 : lcLoop nx n tg fi fe (k + 1) i ρ' σ' = bnd (nox (fi ρ1)) (fun c => if c = true then bnd (nox (fe ρ1)) fun y => bnd (oAppend (.ref n) [y]) fun _ => lcLoop nx n tg fi fe k (i + 1) ρ1 else lcLoop nx n tg fi fe k (i + 1) ρ1) σ' := by
              conv => lhs; unfold lcLoop
              simp only [en, et]
            rw [bnd_congr e1, bnd_assoc] at p'
            have I7' := I7.pinned (stat fr7) (TT.obj _ _ tn7)
            refine wpAny_bind (thn (htg _ _ _ _ _ _ s7 st' H7 xv u (fun st8 H8 => H8 = H7 ∧ ERep T μ' H7 ρ1 st8) I7' r7 ⟨μ', σ', ρ', d, ρ1, hE', r', hd, et, fun st8 hE8 => ⟨rfl, hE8⟩⟩) fun _ s8 ⟨st8, H8, I8, eH8, hE8⟩ => ?_)
            subst eH8
            refine wpAny_bind (thn (hif _ _ _ _ _ _ s8 st8 H8 (fun c H9 => ∃ μ9 σ9, Ext μ' H8 μ9 H9 ∧ Rel T μ9 H9 σ9 ∧ Post T E (Rep T) μ9 H9 (bnd (if c = true then bnd (nox (fe ρ1)) fun y => bnd (oAppend (.ref n) [y]) fun _ => lcLoop nx n tg fi fe k (i + 1) ρ1 else lcLoop nx n tg fi fe k (i + 1) ρ1) (fun _ => ret (.ref n)) σ9) Q) I8
              ⟨μ', ρ1, σ', hE8, r', p'.bind0 fun c σ9 μ9 c' H9 _ e9 r9 q9 p9 => by cases q9; exact ⟨μ9, σ9, e9, r9, p9⟩⟩) fun c s9 ⟨H9, I9, μ9, σ9, e9, r9, p9⟩ => ?_)
            have again : ∀ {s11 : Shared} {H11 : Hp} {μ11 : List Addr} {σ11 : Sto}, Inv Y ([] ++ pinsAt fp s7.heap) st8 H11 s11 → Ext μ' H8 μ11 H11 → Rel T μ11 H11 σ11 → Post T E (Rep T) μ11 H11 (bnd (lcLoop nx n tg fi fe k (i + 1) ρ1) (fun _ => ret (.ref n)) σ11) Q →
                ∃ m, m < k + 1 ∧ ∃ i μ' H' σ' ρ' st', Inv Y [] st' H' s11 ∧ tn i s11.heap ∧ (∀ b ∈ fp, H' b = none) ∧ Ext μ3 H3 μ' H' ∧ ERep T μ' H' ρ' st' ∧ Rel T μ' H' σ' ∧ Post T E (Rep T) μ' H' (bnd (lcLoop nx n tg fi fe m i ρ') (fun _ => ret (.ref n)) σ') Q := by
              intro s11 H11 μ11 σ11 I11 e11 r11 p11
              refine ⟨k, Nat.lt_succ_self _, i + 1, μ11, H11, σ11, ρ1, st8, I11.unpinned, TT.keep _ _ _ tn7 (fun b hb o e => (I11.pin (b, o) (List.mem_append_right _ (List.mem_append_right _ (mem_pinsAt hb e)))).1), fun b hb => ?_, ex'.trans e11, hE8.mono e11, r11, p11⟩
              obtain ⟨o, e, _⟩ := TT.obj _ _ tn7 b hb
              exact (I11.pin (b, o) (List.mem_append_right _ (List.mem_append_right _ (mem_pinsAt hb e)))).2.1
            cases c with
            | false =>
              rw [if_neg Bool.false_ne_true] at p9
              exact wpAny_pure ⟨rfl, again I9 e9 r9 p9⟩
            | true =>
              rw [if_pos rfl, bnd_assoc] at p9
              refine wpAny_bind (wpAny_bind (thn (helt _ _ _ _ _ _ s9 st8 H9 (fun v H10 => ∃ y μ10 σ10, Ext μ' H8 μ10 H10 ∧ Rel T μ10 H10 σ10 ∧ Rep T μ10 H10 y v ∧ Post T E (Rep T) μ10 H10 (bnd (oAppend (.ref n) [y]) (fun _ => bnd (lcLoop nx n tg fi fe k (i + 1) ρ1) (fun _ => ret (.ref n))) σ10) Q) I9
                ⟨μ9, ρ1, σ9, hE8.mono e9, r9, p9.bind0 fun y σ10 μ10 v H10 _ e10 r10 q10 p10 => ⟨y, μ10, σ10, e9.trans e10, r10, q10, by rw [bnd_assoc] at p10; exact p10⟩⟩) fun w s10 ⟨v, H10, I10, rw10, y, μ10, σ10, e10, r10, q10, p10⟩ => ?_))
              have happ := app_rel (Q := fun _ H11 => ∃ μ11 σ11, Ext μ' H8 μ11 H11 ∧ Rel T μ11 H11 σ11 ∧ Post T E (Rep T) μ11 H11 (bnd (lcLoop nx n tg fi fe k (i + 1) ρ1) (fun _ => ret (.ref n)) σ11) Q) r10 ((ex'.trans e10).get hn) q10
                (p10.bind fun _ σ11 μ11 v11 H11 _ e11 r11 q11 p11 => ⟨μ11, σ11, e10.trans e11, r11, p11⟩)
              refine wpAny_bind (thn (mt_append (X := Y) _ s10 st8 H10 (.ref D0) [v] (.ref D0) [w] _ I10 rfl (.cons rw10 .nil) happ) fun _ s11 ⟨v11, H11, I11, _, μ11, σ11, e11, r11, p11⟩ => ?_)
              exact wpAny_pure (wpAny_pure ⟨rfl, again I11 e11 r11 p11⟩)
  exact codeAny_compStart_list loop (TT.self X.A 0 _ _ _ hst4 loop)
theorem fe_lc {elt iter tgt : Expr} {ifs : List Expr} {scope : Scope} {pos : Pos} {x : Str} {M' : List Str} {ix : List Nat} {src : Ev → M Src} {tg : D → Ev → Option Ev} {fi : Ev → M Bool} {fe : Ev → M D}
    (hc : X.calm = true) (L : LcOk X x M' ix scope) (hsrc : FI T X tgt iter src)
    (htg : ∀ cl C s₀ H₀ ex, FG T (blk X (x :: M') scope cl C s₀ H₀ ex) tgt tg)
    (hif : ∀ cl C s₀ H₀ ex, FIf T (blk X (x :: M') scope cl C s₀ H₀ ex) ifs fi)
    (helt : ∀ cl C s₀ H₀ ex, FE T (blk X (x :: M') scope cl C s₀ H₀ ex) elt fe)
    (hs : ∀ y, foldedSetIterable iter X.env y = pure y := by intro _; rfl) :
    FE T X (.ListComp elt [⟨tgt, iter, ifs, 0⟩] scope pos) (eLC src ix tg fi fe) := by
  intro pins s st H Q I h
  obtain ⟨μ, ρ, σ, hE, hr, hp⟩ := h
  rw [eval_ListComp]
  refine wpAny_comprehension_free (use := none) rfl hs (closure_is X.env scope (clos_of I L)) L.kind (fun y hy e => ?_) ?_
  · have q := List.all_eq_true.mp L.names y hy
    rw [e] at q
    simp only [beq_self_eq_true, Bool.not_true, Bool.false_or] at q
    exact eq_of_beq q
  have h1 := hsrc pins s st H (fun J H2 => ∃ nx μ2 σ2, Ext μ H μ2 H2 ∧ Rel T μ2 H2 σ2 ∧ SrcOk T μ2 H2 nx J ∧ Post T (XE X st) (Rep T) μ2 H2 (bnd (lcLoop nx σ2.length tg fi fe 1001 0 (blkEv ix ρ)) (fun _ => ret (.ref σ2.length)) (σ2 ++ [Ob.lst []])) Q) I
    ⟨μ, ρ, σ, hE, hr, hp.bind fun nx σ1 μ1 J H1 _ e1 r1 q1 p1 => ⟨nx, μ1, σ1, e1, r1, q1, p1⟩⟩
  refine thn h1 fun v s1 h2 => thn h2 fun itv s2 h3 => ?_
  obtain ⟨it, fp, tn, J, H2, rfl, I2, TT, st2, f2, nx, μ2, σ2, ex2, r2, so, p2⟩ := h3
  refine wpAny_newObj_type (wpAny_newFunctionEnv (nocell L) (by intro y hy; simp at hy) (fun h₁ hns₁ hsb₁ => ?_) L.kind)
  have I3 := I2.lnew (ys := []) (its := []) (t' := s2.toks) .nil (by simp)
  have fr2 : H2 s2.heap.objs.size = none := I2.hok.fresh (Nat.le_refl _)
  have r3 := r2.push (p := s2.heap.objs.size) (o := .lst []) (ob := .lst []) fr2 ⟨[], upd_same, RepL.nil⟩
  have ex3 : Ext μ2 H2 (μ2 ++ [s2.heap.objs.size]) (upd H2 s2.heap.objs.size (.lst [])) := ext_push fr2
  have hsz : s2.heap.objs.size < (s2.heap.push { cls := .type "list", data := .seq ([] : List Value).toArray }).objs.size := by rw [Heap.size_push]; exact Nat.lt_succ_self _
  have kp : ∀ b o, (s2.heap.push { cls := .type "list", data := .seq ([] : List Value).toArray }).get? b = some o → h₁.get? b = some o := fun b o e => hsb₁.extBut b o (Nat.ne_of_lt (Heap.lt_size e)) (Heap.get?_push_of_some _ e)
  have hfp : ∀ b ∈ fp, FpOk X pins (upd H2 s2.heap.objs.size (.lst [])) b ∧ b < (s2.heap.push { cls := .type "list", data := .seq ([] : List Value).toArray }).objs.size := fun b hb => by
    obtain ⟨o, e, _⟩ := TT.obj 0 _ st2 b hb
    have lt := Heap.lt_size e
    exact ⟨⟨by rw [upd_ne (Nat.ne_of_lt lt)]; exact (f2 b hb).1, (f2 b hb).2⟩, Nat.lt_trans lt hsz⟩
  refine lc_core (s3 := { s2 with heap := s2.heap.push { cls := .type "list", data := .seq ([] : List Value).toArray }, toks := s2.toks }) (n := σ2.length) (D0 := s2.heap.objs.size) hc L htg hif helt I3 hfp hns₁ kp TT (TT.keep 0 _ _ st2 fun b hb o e => kp b o (Heap.get?_push_of_some _ e))
    (fun μ H σ i ex r => so μ H σ i (ex3.trans ex) r) ((hE.mono ex2).mono ex3) r3 (by rw [← r2.len]; simp) (p2.mono ex3) (fun s6 H' m6 hm6 hC' hu0 hos hok6 hb6 hq => ⟨m6, hm6, fun h7 hs7 => ?_⟩)
  have hu := un_same hu0 hs7 (Nat.le_refl _)
  have I7 := L2.Inv.call' (s' := { s6 with heap := h7 }) (ch := fp) I3 hos hu (hok_same hok6 hs7 hC') hb6 (fun b hb => ⟨(hfp b hb).1.2.2.2.1, (hfp b hb).1.2.1, (hfp b hb).1.2.2.2.2.1, (hfp b hb).1.2.2.2.2.2⟩)
  exact ⟨.ref s2.heap.objs.size, H', I7, rfl, hq⟩
/-- y = [.. for ..]: the name is stored ahead of the block's end -/
theorem fs_setLC {elt iter tgt : Expr} {ifs : List Expr} {scope : Scope} {pos spos py : Pos} {x y : Str} {i : Nat} {M' : List Str} {ix : List Nat} {src : Ev → M Src} {tg : D → Ev → Option Ev} {fi : Ev → M Bool} {fe : Ev → M D}
    (hN : X.N.Nodup) (hi : X.N[i]? = some y) (hx : Loc X.env.scope y)
    (hc : X.calm = true) (L : LcOk X x M' ix scope) (hsrc : FI T X tgt iter src)
    (htg : ∀ cl C s₀ H₀ ex, FG T (blk X (x :: M') scope cl C s₀ H₀ ex) tgt tg)
    (hif : ∀ cl C s₀ H₀ ex, FIf T (blk X (x :: M') scope cl C s₀ H₀ ex) ifs fi)
    (helt : ∀ cl C s₀ H₀ ex, FE T (blk X (x :: M') scope cl C s₀ H₀ ex) elt fe)
    (hs : ∀ y, foldedSetIterable iter X.env y = pure y := by intro _; rfl)
    (hsw : swapsWith (.ListComp elt [⟨tgt, iter, ifs, 0⟩] scope pos) (some (.Name y py)) spos.line X.env = pure true := by rfl)
    (hf : X.fn y = true ∨ X.env.scope.names.lookup y = some .local := by first | exact .inl rfl | exact .inr rfl | assumption) :
    FS T X (.Assign [.Name y py] (.ListComp elt [⟨tgt, iter, ifs, 0⟩] scope pos) spos) (sSet i (eLC src ix tg fi fe)) := by
  intro pins s st H D I h
  obtain ⟨μ, ρ, σ, hE, hr, hp0⟩ := h
  have hp : Post T (XE X st) (Rep T) μ H (eLC src ix tg fi fe ρ σ) (fun v H1 => D.nx (st.set i (some v)) H1) := hp0.xs hE fun d σ1 μ1 v H1 _ e1 r1 q1 p1 => Post.here (g := Gl2.nx (st.set i (some v))) p1 r1 ((hE.mono e1).set i q1)
  rw [exec_Assign_Name_used _ _ _ _ hsw]
  refine wpAny_bind (wpAny_standAt (wpAny_bind ?_))
  show wpAny _ X.A (do let _ ← comprehension (.ListComp elt [⟨tgt, iter, ifs, 0⟩] scope pos) scope X.env _ (newList []) false (eval iter X.env) (some (assign (.Name y py) X.env))) _ _ s
  refine wpAny_bind (wpAny_mono (wpAny_comprehension_free (use := some (assign (.Name y py) X.env)) (Q := fun _ s' => SP X pins D .next s') rfl hs (closure_is X.env scope (clos_of I L)) L.kind (fun y hy e => ?_)
    ?_) (fun _ s' hq => wpAny_pure (wpAny_pure hq)) fun _ _ e => e)
  · have q := List.all_eq_true.mp L.names y hy
    rw [e] at q
    simp only [beq_self_eq_true, Bool.not_true, Bool.false_or] at q
    exact eq_of_beq q
  have h1 := hsrc pins s st H (fun J H2 => ∃ nx μ2 σ2, Ext μ H μ2 H2 ∧ Rel T μ2 H2 σ2 ∧ SrcOk T μ2 H2 nx J ∧ Post T (XE X st) (Rep T) μ2 H2 (bnd (lcLoop nx σ2.length tg fi fe 1001 0 (blkEv ix ρ)) (fun _ => ret (.ref σ2.length)) (σ2 ++ [Ob.lst []])) (fun v H1 => D.nx (st.set i (some v)) H1)) I
    ⟨μ, ρ, σ, hE, hr, hp.bind fun nx σ1 μ1 J H1 _ e1 r1 q1 p1 => ⟨nx, μ1, σ1, e1, r1, q1, p1⟩⟩
  refine thn h1 fun v s1 h2 => thn h2 fun itv s2 h3 => ?_
  obtain ⟨it, fp, tn, J, H2, rfl, I2, TT, st2, f2, nx, μ2, σ2, ex2, r2, so, p2⟩ := h3
  refine wpAny_newObj_type (wpAny_newFunctionEnv (nocell L) (by intro y hy; simp at hy) (fun h₁ hns₁ hsb₁ => ?_) L.kind)
  have I3 := I2.lnew (ys := []) (its := []) (t' := s2.toks) .nil (by simp)
  have fr2 : H2 s2.heap.objs.size = none := I2.hok.fresh (Nat.le_refl _)
  have r3 := r2.push (p := s2.heap.objs.size) (o := .lst []) (ob := .lst []) fr2 ⟨[], upd_same, RepL.nil⟩
  have ex3 : Ext μ2 H2 (μ2 ++ [s2.heap.objs.size]) (upd H2 s2.heap.objs.size (.lst [])) := ext_push fr2
  have hsz : s2.heap.objs.size < (s2.heap.push { cls := .type "list", data := .seq ([] : List Value).toArray }).objs.size := by rw [Heap.size_push]; exact Nat.lt_succ_self _
  have kp : ∀ b o, (s2.heap.push { cls := .type "list", data := .seq ([] : List Value).toArray }).get? b = some o → h₁.get? b = some o := fun b o e => hsb₁.extBut b o (Nat.ne_of_lt (Heap.lt_size e)) (Heap.get?_push_of_some _ e)
  have hfp : ∀ b ∈ fp, FpOk X pins (upd H2 s2.heap.objs.size (.lst [])) b ∧ b < (s2.heap.push { cls := .type "list", data := .seq ([] : List Value).toArray }).objs.size := fun b hb => by
    obtain ⟨o, e, _⟩ := TT.obj 0 _ st2 b hb
    have lt := Heap.lt_size e
    exact ⟨⟨by rw [upd_ne (Nat.ne_of_lt lt)]; exact (f2 b hb).1, (f2 b hb).2⟩, Nat.lt_trans lt hsz⟩
  refine lc_core (s3 := { s2 with heap := s2.heap.push { cls := .type "list", data := .seq ([] : List Value).toArray }, toks := s2.toks }) (n := σ2.length) (D0 := s2.heap.objs.size) hc L htg hif helt I3 hfp hns₁ kp TT (TT.keep 0 _ _ st2 fun b hb o e => kp b o (Heap.get?_push_of_some _ e))
    (fun μ H σ i ex r => so μ H σ i (ex3.trans ex) r) ((hE.mono ex2).mono ex3) r3 (by rw [← r2.len]; simp) (p2.mono ex3) (fun s6 H' m6 hm6 hC' hu0 hos hok6 hb6 hq => ?_)
  have I6 := L2.Inv.call' (s' := s6) (ch := fp) I3 hos hu0 hok6 hb6 (fun b hb => ⟨(hfp b hb).1.2.2.2.1, (hfp b hb).1.2.1, (hfp b hb).1.2.2.2.2.1, (hfp b hb).1.2.2.2.2.2⟩)
  have ltL : X.env.locals < (s2.heap.push { cls := .type "list", data := .seq ([] : List Value).toArray }).objs.size := I3.lt
  have ltC : ∀ z c, X.env.cells.lookup z = some c → c < (s2.heap.push { cls := .type "list", data := .seq ([] : List Value).toArray }).objs.size := fun z c e => by
    obtain ⟨v, q⟩ := I3.cell z c e; exact q.lt
  show wpAny _ X.A (assign (.Name y py) X.env (.ref s2.heap.objs.size)) _ _ s6
  refine wpAny_assign_Name (store_ok2 (v := .ref s2.heap.objs.size) I6 hN hi hx rfl (fun s7 I7 ⟨a, sb, ha⟩ => ?_) hf)
  have neC : a ≠ (s2.heap.push { cls := .type "list", data := .seq ([] : List Value).toArray }).objs.size := by
    rcases ha with rfl | ha
    · exact Nat.ne_of_lt ltL
    · exact Nat.ne_of_lt (ltC _ _ ha)
  refine ⟨m6, hm6.sameBut sb (Ne.symm neC), fun h8 hs8 => ?_⟩
  refine ⟨st.set i (some (.ref s2.heap.objs.size)), H', ?_, hq⟩
  exact I7.turned (t' := s7.toks) (it := (s2.heap.push { cls := .type "list", data := .seq ([] : List Value).toArray }).objs.size) (fun b o hb e => (hs8.2 b hb).trans e) hC' (Nat.ne_of_gt ltL) (.inr (Nat.le_trans I3.sz (Nat.le_refl _))) (fun z c e => Nat.ne_of_lt (ltC z c e)) (fun p hp => Nat.ne_of_lt (Heap.lt_size (I3.pin p hp).1))
end
end L4

namespace L4
open PySem PySem.Spec PyProof.Rows L2

/-! ### + of ints, tuples, lists -/
def oAddL (x y : D) : M D := fun σ => match lsOf σ x, lsOf σ y with
  | some xs, some ys => if xs.length + ys.length ≤ cap then .ok (.lst (xs ++ ys)) σ else .bad
  | _, _ => .bad
def oAdd (x y : D) : M D := match x, y with
  | .int i, .int j => ret (.int (i + j))
  | .tup xs, .tup ys => if xs.length + ys.length ≤ cap then ret (.tup (xs ++ ys)) else bad
  | .str a, .str b => if a.length + b.length ≤ 100000 then ret (.str (a ++ b)) else bad
  | x, y => oAddL x y
theorem str_small {n : Nat} (h : n ≤ 100000) : n ≤ sizeLine := Nat.le_trans h (by decide)
section
variable {T : Tb} {X : Cx} {a b c : Expr} {fa fb fc : Ev → M D} {pos : Pos}
theorem cat_tup0 {prog : Program} {w : World} {A : Around} {F : Value → Shared → Prop} {s : Shared} {t b : Addr} {ws : List Value} {Q : Value → Shared → Prop} (ht : IsTup s.heap t (#[] : Array Value)) (hb : IsTup s.heap b ws.toArray) (h1 : Q (.ref b) s) : wpAny (model prog w) A (binaryOp .Add (.ref t) (.ref b)) Q F s := by
  obtain ⟨⟨cls, dd, data, sl⟩, ho, hc, n, hd⟩ := id ht
  obtain ⟨⟨cls2, dd2, data2, sl2⟩, ho2, hc2, n2, hd2⟩ := id hb
  simp only at hc hd hc2 hd2
  subst hc hd hc2 hd2
  exact concat_meets ⟨_, ho, rfl⟩ ⟨_, ho2, rfl⟩ noFill_tuple_add seq_tuple_add PySem.F.slot_tuple_add PySem.F.entry_tuple_add (PySem.F.args_tuple_add_2 _ _)
    (tuple_addW0 t b #[] ws.toArray n n2 dd dd2 sl sl2 rfl) ⟨ho, ho2, h1⟩
theorem addL_snd {E : XK} {μ : List Addr} {H : Hp} {σ : Sto} {x y : D} {v u : V} {v' u' : Value} {Q : VK} {pins : List (Addr × Obj)} {s : Shared} {st : St} (I : Inv X pins st H s) (rv : RelV v v') (ru : RelV u u') (r : Rel T μ H σ) (hx : Rep T μ H x v) (hy : Rep T μ H y u) (hp : Post T E (Rep T) μ H (oAddL x y σ) Q) :
    wpAny (model X.prog X.w) X.A (binaryOp .Add v' u') (EP X pins st Q) X.xe s := by
  unfold oAddL at hp
  cases e1 : lsOf σ x with
  | none => rw [e1] at hp; exact hp.elim
  | some xs =>
    cases e2 : lsOf σ y with
    | none => rw [e1, e2] at hp; exact hp.elim
    | some ys =>
      rw [e1, e2] at hp
      dsimp only at hp
      by_cases hc : xs.length + ys.length ≤ cap
      · rw [if_pos hc] at hp
        obtain ⟨p, vs, rfl, h1, h2⟩ := r.ls hx e1
        obtain ⟨q, ws, rfl, h3, h4⟩ := r.ls hy e2
        exact op_cat pins s st H _ _ v' u' Q I rv ru ⟨p, q, vs, ws, rfl, rfl, h1, h3, by rw [← h2.length, ← h4.length]; exact cap_le hc, fun l hl => new_lv hp r (RepL.append h2 h4) hl⟩
      · rw [if_neg hc] at hp; exact hp.elim
theorem op_addD (hK : T.K = X.K) : OpR X (binaryOp .Add) (rD T oAdd) := by
  intro pins s st H v u v' u' Q I rv ru h
  obtain ⟨E, μ, σ, x, y, r, hx, hy, hp⟩ := h
  cases x with
  | int i =>
    cases y with
    | int j => exact op_add pins s st H v u v' u' Q I rv ru ⟨i, j, int_of hx, int_of hy, Post.here hp r (by rw [Rep])⟩
    | _ => exact addL_snd I rv ru r hx hy hp
  | str a =>
    cases y with
    | str b =>
      unfold oAdd at hp
      dsimp only at hp
      by_cases hc : a.length + b.length ≤ 100000
      · rw [if_pos hc] at hp
        exact op_add_str pins s st H v u v' u' Q I rv ru ⟨a, b, by simpa [Rep] using hx, by simpa [Rep] using hy, str_small hc, Post.here hp r (by rw [Rep])⟩
      · rw [if_neg hc] at hp; exact hp.elim
    | _ => exact addL_snd I rv ru r hx hy hp
  | tup xs =>
    cases y with
    | tup ys =>
      unfold oAdd at hp
      dsimp only at hp
      by_cases hc : xs.length + ys.length ≤ cap
      · rw [if_pos hc] at hp
        have hx0 := hx
        have hy0 := hy
        rw [Rep] at hx hy
        obtain ⟨p, vs, rfl, h1, h2⟩ := hx
        obtain ⟨q, ws, rfl, h3, h4⟩ := hy
        cases vs with
        | nil =>
          have e0 : xs = [] := by have := h2.length; simpa using this
          subst e0
          cases rv; cases ru
          obtain ⟨its, q1, t1, _⟩ := L2.Inv.tuple I (SqT.of (K := X.K) h1)
          obtain ⟨its2, q2, t2, _⟩ := L2.Inv.tuple I (SqT.of (K := X.K) h3)
          cases q1
          exact cat_tup0 t1 t2 ⟨.ref q, H, I, rfl, Post.here hp r (by simpa using hy0)⟩
        | cons v0 vr =>
          refine op_catT pins s st H _ _ v' u' Q I rv ru ⟨p, q, _, ws, rfl, rfl, SqT.of h1, SqT.of h3, by simp, ?_, fun e => ?_, fun e l hl => ?_⟩
          · rw [← h2.length, ← h4.length]; exact cap_le hc
          · subst e
            have e0 : ys = [] := by have := h4.length; simpa using this
            subst e0
            exact Post.here hp r (by simpa using hx0)
          · exact new_tup hp r (RepL.append h2 h4) hl
      · rw [if_neg hc] at hp; exact hp.elim
    | _ => exact addL_snd I rv ru r hx hy hp
  | _ => exact addL_snd I rv ru r hx hy hp

/-! ### a op b op c -/
def chain2 (o' : D → D → M D) (c : M D) (y : D) : D → M D := testK (ifK (bnd c (o' y)) (ret (.bl false)))
def chainB (o o' : D → D → M D) (c : M D) (x y : D) : M D := bnd (o x y) (chain2 o' c y)
def chain1 (o o' : D → D → M D) (b c : M D) (x : D) : M D := bnd b (chainB o o' c x)
def eChain (o o' : D → D → M D) (a b c : Ev → M D) : Ev → M D := fun ρ => bnd (a ρ) (chain1 o o' (b ρ) (c ρ))
theorem fe_chain {op op' : CmpOp} {r r' : R2} {o o' : D → D → M D} (ho : OpR X (compareOp op) r) (hs : SndOp T r o) (ho' : OpR X (compareOp op') r') (hs' : SndOp T r' o') (ha : FE T X a fa) (hb : FE T X b fb) (hc : FE T X c fc)
    (hm : lastMarks [op, op'] [b, c] = false := by with_unfolding_all rfl) : FE T X (.Compare a [op, op'] [b, c] pos) (eChain o o' fa fb fc) := by
  intro pins s st H Q I h
  refine pe_chain ho ho' ha hb hc hm pins s st H Q I ?_
  obtain ⟨μ, ρ, σ, hE, hr, hp⟩ := h
  refine ⟨μ, ρ, σ, hE, hr, hp.bind fun x σ1 μ1 v H1 _ e1 r1 q1 p1 => ⟨μ1, ρ, σ1, hE.mono e1, r1, p1.bind fun y σ2 μ2 w H2 _ e2 r2 q2 p2 => ?_⟩⟩
  refine hs _ μ2 H2 σ2 x y v w _ r2 (Rep.mono e2 _ _ q1) q2 (p2.bind fun z σ3 μ3 u H3 _ e3 r3 q3 p3 => ?_)
  obtain ⟨k, rfl, ev, p4⟩ := tst_bl q3 p3
  refine ⟨k, ev, ?_⟩
  cases k with
  | true =>
    unfold ifK at p4; rw [if_pos rfl] at p4 ⊢
    exact ⟨μ3, ρ, σ3, ((hE.mono e1).mono e2).mono e3, r3, p4.bind fun z σ5 μ5 u5 H5 _ e5 r5 q5 p5 => hs' _ μ5 H5 σ5 y z w u5 Q r5 (Rep.mono e5 _ _ (Rep.mono e3 _ _ q2)) q5 p5⟩
  | false => unfold ifK at p4; rw [if_neg Bool.false_ne_true] at p4 ⊢; exact Post.here p4 r3 (by rw [Rep])
theorem hu9 {k : Nat} {A : Around} (hr : Room k A) : A.units + 9 < cLine := by have := hr.un; omega
end
end L4

namespace L4
open PySem PySem.Spec PyProof.Rows L2

/-! ### the text's defs -/
def HasFn (K : PySem.W.Frag) (mg : Str → Option Value) (x : Str) (st : Stmt) (ps : List Str) : Prop :=
  ∃ f fd, mg x = some (.ref f) ∧ Fun K x x st f fd ∧ ∀ us : List Value, us.length = ps.length → bindArgs fd ⟨us, []⟩ = pure (ps.zip us)
def OkF (T : Tb) (P : Program) (w : World) (mg : Str → Option Value) (base : Heap) (k : Nat) (x : Str) (ps : List Str) (fn : List D → M D) : Prop :=
  ∃ f fd, mg x = some (.ref f) ∧ PySem.W.keepIn T.K (.ref f) = true ∧ (∀ us : List Value, us.length = ps.length → bindArgs fd ⟨us, []⟩ = pure (ps.zip us)) ∧ FnOk P w T.K mg base (CXE P w) k f fd ps (spF T ps.length fn)
section
variable {T : Tb} {X : Cx}
theorem fe_callO {k : Nat} {ps : List Str} {fn : List D → M D} {x : Str} {p pos : Pos} {e : Expr} {es : List Expr} {fs : Ev → M (List D)} (h : OkF T X.prog X.w X.mg X.base k x ps fn) (hK : T.K = X.K) (hr : Room k X.A) (hg : Gl X x)
    (ha : FA T X (e :: es) fs) (hdb : (x == ("__debug__" : Str)) = false := by decide) (he : starEach (e :: es) X.env = (false, eval e X.env) :: starEach es X.env := by rfl) (hpl : (backTo pos (starEach es X.env)).any (·.1) = false := by rfl) :
    FE T X (.Call (.Name x p) (e :: es) [] pos) (eFn ps.length fn [] fs) := by
  obtain ⟨f, fd, hm, hk, hb, hF⟩ := h
  rw [hK] at hk hF
  exact fe_call (dds := []) (dvs := []) hF hr hg hm hk (.all hb) .nil (fun _ _ => RepL.nil) ha hdb he hpl
variable {P : Program} {w : World} {K : PySem.W.Frag} {mg : Str → Option Value} {base : Heap} {ca : Nat → Addr}
theorem ok_of {k : Nat} {x : Str} {st : Stmt} {ps N : List Str} {g : Ev → M Fl} (h : HasFn K mg x st ps) (S : FnScope N ps (defScope st))
    (hb : ∀ (f : Addr) (cdv : Value) (A : Around) (outer : List Env) (s : Shared) (H : Hp) (E : XK), Room k (A.deeper (envOfC x (defScope st) s.heap.objs.size f cdv)) → FSs ⟨K, ca⟩ (cxOf (CXE P w) P w K mg base N x (defScope st) f cdv A outer s H E) (defBody st) g) :
    OkF ⟨K, ca⟩ P w mg base (k + 1) x ps (run N.length g) := by
  obtain ⟨f, fd, hm, F, hbd⟩ := h
  obtain ⟨oc, od, kV, doc, pm, an, cdv, ct, osl, rfl, lk, hcd⟩ := F.ex
  exact ⟨f, _, hm, F.kp, hbd, fok lk hcd S (hb f cdv)⟩
theorem OkF.frz {k : Nat} {x : Str} {ps : List Str} {fn : List D → M D} (h : OkF T P w mg base k x ps fn) : OkF T P w mg base k x ps (fun ds => L4.frz (fn ds)) := by
  obtain ⟨f, fd, h1, h2, h3, h4⟩ := h
  exact ⟨f, fd, h1, h2, h3, fok_frz h4⟩
theorem mkF {h : Heap} {x : Str} {st : Stmt} {ps : List Str} {f : Addr} {oc : Value} {od an : Option Addr} {osl : Array (Option Value)} {kV doc pm cdv ct : Value} (X : K.In h) (G : h.Ns mainGlobals mg)
    (hb : ∀ (kV doc pm : Value) (an : Option Addr) (cdv ct : Value) (us : List Value), us.length = ps.length → bindArgs (PySem.W.fnOf x x (defArgs st) (defBody st) (defScope st) .none kV doc pm an cdv ct) ⟨us, []⟩ = pure (ps.zip us))
    (a : PySem.W.nsIn K mainGlobals x = some (some (.ref f))) (l : K.lookup f = some ⟨oc, od, .func (PySem.W.fnOf x x (defArgs st) (defBody st) (defScope st) .none kV doc pm an cdv ct), osl⟩)
    (c : PySem.W.codeIn K cdv x = true) (k : PySem.W.keepIn K (.ref f) = true) : HasFn K mg x st ps :=
  ⟨f, _, PySem.W.mg_of X G a, fun_mk l c k, hb kV doc pm an cdv ct⟩
theorem mkI {h : Heap} {x : Str} {i : Int} {t : Tok} (X : K.In h) (G : h.Ns mainGlobals mg) (a : PySem.W.nsIn K mainGlobals x = some (some (.int i t))) : ∃ t, mg x = some (.int i t) := ⟨t, PySem.W.mg_of X G a⟩
end
/-- the law: from its data's answer -/
theorem scr_of {K : PySem.W.Frag} {H : Hp} {a : Addr} {ns : List Int} (hO : Only H) (h : SqL K H a (ns.map V.int)) : Scr K H a ns := by
  rcases h with (h | ⟨o, h⟩) | h
  · rcases hO a with z | ⟨o, xs, z⟩
    · rw [z] at h; cases h
    · rw [z] at h; cases h
  · exact .inl ⟨o, h⟩
  · exact .inr h
/-- the law's promise, whatever the table -/
def sp0 (K : PySem.W.Frag) : Sp := fun vs H Q E => ∃ (a : Addr) (ns : List Int), vs = [.ref a] ∧ ns.length ≤ 63 ∧ Only H ∧ SqL K H a (ns.map V.int) ∧ ∀ v H', v = .bl true → Q v H'
theorem sp0_of {K : PySem.W.Frag} {ca : Nat → Addr} {fn : List D → M D} (tr : ∀ ns : List Int, ns.length ≤ 63 → ∃ σ, fn [.scr ns] [] = .ok (.bl true) σ) {vs : List V} {H : Hp} {Q : VK} {E : XK} (h : sp0 K vs H Q E) : spF ⟨K, ca⟩ 1 fn vs H Q E := by
  obtain ⟨a, ns, rfl, hl, hO, hS, hq⟩ := h
  obtain ⟨σ, e⟩ := tr ns hl
  refine ⟨[], [], [.scr ns], RepL.cons (by rw [Rep]; exact ⟨a, rfl, scr_of hO hS⟩) RepL.nil, rfl, ⟨rfl, List.nodup_nil, fun n o q => by simp at q⟩, ?_⟩
  rw [e]
  intro μ' v H' _ _ r
  rw [Rep] at r
  exact hq v H' r
def OkL (T : Tb) (P : Program) (w : World) (mg : Str → Option Value) (k : Nat) (x : Str) (ps : List Str) (fn : List D → M D) : Prop :=
  ∃ f fd, mg x = some (.ref f) ∧ (∀ us : List Value, us.length = ps.length → bindArgs fd ⟨us, []⟩ = pure (ps.zip us)) ∧ ∀ base : Heap, FnOk P w T.K mg base (CXE P w) k f fd ps (spF T ps.length fn)
theorem ok_ofL {P : Program} {w : World} {K : PySem.W.Frag} {mg : Str → Option Value} {ca : Nat → Addr} {k : Nat} {x : Str} {st : Stmt} {ps N : List Str} {g : Ev → M Fl} (h : HasFn K mg x st ps) (S : FnScope N ps (defScope st))
    (hb : ∀ (base : Heap) (f : Addr) (cdv : Value) (A : Around) (outer : List Env) (s : Shared) (H : Hp) (E : XK), Room k (A.deeper (envOfC x (defScope st) s.heap.objs.size f cdv)) → FSs ⟨K, ca⟩ (cxOf (CXE P w) P w K mg base N x (defScope st) f cdv A outer s H E) (defBody st) g) :
    OkL ⟨K, ca⟩ P w mg (k + 1) x ps (run N.length g) := by
  obtain ⟨f, fd, hm, F, hbd⟩ := h
  obtain ⟨oc, od, kV, doc, pm, an, cdv, ct, osl, rfl, lk, hcd⟩ := F.ex
  exact ⟨f, _, hm, hbd, fun base => fok lk hcd S (hb base f cdv)⟩
theorem walkL {l : PySem.W.OpenLaw} {q : Program} {loose : List Str} {XP : (Str → Option Value) → Heap → Prop} {YP : World → Heap → Prop} {d : DefRec} {K : Params → PySem.W.Frag} {k : Nat} {x : Str} {fn : List D → M D}
    (hn : l.most = some 63) (hdf : d.params.defaults = []) (hr : Room k callerA) (hY : ∀ (w : World) (h : Heap), YP w h → (K w.params).In h)
    (F : ∀ (w : World) (mg : Str → Option Value) (h : Heap), (K w.params).In h → h.Ns mainGlobals mg → ∃ ca, OkL ⟨K w.params, ca⟩ l.prog w mg k d.name [x] fn)
    (tr : ∀ ns : List Int, ns.length ≤ 63 → ∃ σ, fn [.scr ns] [] = .ok (.bl true) σ) :
    PySem.W.WalkO q loose XP YP l.row.toRowW d [] (fun f vs => PySem.call f vs) := by
  refine L2.walk_of (n := 63) (k := k) (x := x) (CX := fun w => CXE l.prog w) (sp := fun w => sp0 (K w.params)) hn (by decide) hdf hr hY (fun w mg fa h KX G hmg => ?_) (fun w H a ns hl hO hS => ⟨a, ns, rfl, hl, hO, hS, fun _ _ e => e⟩) (fun w H s e s' z => ?_)
  · obtain ⟨ca, f0, fd0, g1, g3, g4⟩ := F w mg h KX G
    rw [hmg] at g1; cases g1
    exact ⟨fd0, fun s u => .of_eq (g3 [u] rfl), fun base hb hg => (g4 base).imp fun vs H Q E z => sp0_of tr z⟩
  · obtain ⟨cls, H', _, z⟩ := z
    exact z
end L4

namespace L4
open PySem PySem.Spec PyProof.Rows L2

/-! ### raise -/
theorem exc_obj {K : PySem.W.Frag} {h : Heap} {C : Addr} {bmB : List Value} {newId : String} (KX : K.In h) (hq : PySem.W.excIn K C bmB newId = true) :
    ∃ bm N nm qn bs hdct sn sub ab col dd k0 k1 k2 k3 k5 mN, h.get? C = some (excClassObj nm qn C N bs bm hdct sn sub ab col dd k0 k1 k2 k3 k5 newId) ∧ h.Ns N mN ∧ mN "__init__" = none ∧ OwnTail h bmB bm := by
  unfold PySem.W.excIn at hq
  split at hq
  · rename_i dd data sl lk
    split at hq
    · rename_i C2 bm k0 k1 k2 k3 nid k5 emro esl
      have hq1 : ((((C2 = C ∧ nid = newId) ∧ data.hasDel = false) ∧ PySem.W.tailIn K bmB bm = true) ∧ PySem.W.nsOkIn K data.ns = true) ∧ PySem.W.nsIn K data.ns "__init__" = some none := by
        simpa [Bool.and_eq_true, Bool.not_eq_true'] using hq
      obtain ⟨⟨⟨⟨⟨c1, c2⟩, c3⟩, c4⟩, c5⟩, c6⟩ := hq1
      subst c1; subst c2
      obtain ⟨nm, bs, mro, ns, qn, hd, sn, sub, ab, col, del⟩ := data
      cases emro; cases c3
      obtain ⟨l⟩ := sl
      cases esl
      exact ⟨bm, ns, nm, qn, bs, hd, sn, sub, ab, col, dd, k0, k1, k2, k3, k5, _, KX _ _ lk, .of_isNs (PySem.W.isNs_of_in KX c5), PySem.W.nsMap_none_of_in KX c5 c6, PySem.W.tail_of_in KX c4⟩
    · cases hq
  · cases hq
def raiseK (c : Nat) (ρ : Ev) (ds : List D) : M Fl := if ds.length ≤ cap then ret (.xc ρ ⟨c⟩) else bad
def sRaise (c : Nat) (fs : Ev → M (List D)) : Ev → M Fl := fun ρ => xs ρ (fs ρ) (raiseK c ρ)
section
variable {T : Tb} {X : Cx}
theorem fs_raise (c : Nat) {x : Str} {B newId initId : String} {bmB : List Value} {np cpos pos : Pos} {e : Expr} {es : List Expr} {fs : Ev → M (List D)} (FB : ExcBaseFacts B newId initId bmB) (hK : T.K = X.K) (hq : PySem.W.excIn T.K (T.ca c) bmB newId = true) (hm : X.mg x = some (.ref (T.ca c)))
    (hg : Gl X x) (hc : X.calm = true) (ha : FA T X (e :: es) fs) (hdb : (x == ("__debug__" : Str)) = false := by decide) (he : starEach (e :: es) X.env = (false, eval e X.env) :: starEach es X.env := by rfl)
    (hpl : (backTo cpos (starEach es X.env)).any (·.1) = false := by rfl) : FS T X (.Raise (some (.Call (.Name x np) (e :: es) [] cpos)) none pos) (sRaise c fs) := by
  intro pins s st H D I hw
  obtain ⟨μ, ρ, σ, hE, hr, hp⟩ := hw
  rw [hK] at hq
  obtain ⟨bm, N, nm, qn, bs, hdct, sn, sub, ab, col, dd, k0, k1, k2, k3, k5, mN, hC, hN, hni, tl⟩ := exc_obj I.ok.mod.kin hq
  have hpl' : (backTo cpos (starEach (e :: es) X.env)).any (·.1) = false := by
    rw [he]; show (false || (backTo cpos (starEach es X.env)).any (·.1)) = false; rw [hpl]; rfl
  refine wpAny_Raise_call_subT (nm := nm) (q := qn) (N := N) (bs := bs) (bm := bm) (hdct := hdct) (sn := sn) (sub := sub) (ab := ab) (col := col) (dd := dd) (k0 := k0) (k1 := k1) (k2 := k2) (k3 := k3) (k5 := k5) FB (mN := mN) (tl.hasType FB.hasBase) (I.ok.hd hc) hpl' hni (ld_glob I hg hm ⟨rfl, ?_⟩ hdb)
  have step := ha cpos pins s st H (fun vs H1 => vs.length ≤ cap ∧ Thr X st (T.cv ⟨c⟩) H1) I ⟨μ, ρ, σ, hE, hr, hp.xs hE fun ds σ1 μ1 vs H1 _ e1 r1 q1 p1 => by
    unfold raiseK at p1
    by_cases hl : ds.length ≤ cap
    · rw [if_pos hl] at p1
      exact ⟨by rw [← q1.length]; exact hl, Post.here (g := Gl2.xc st (T.cv ⟨c⟩)) p1 r1 ⟨hE.mono e1, rfl⟩⟩
    · rw [if_neg hl] at p1; exact p1.elim⟩
  rw [he] at step ⊢
  refine Calls.evalArgs_plain (thn step fun us s1 ⟨vs, H1, I1, r, hl, thr⟩ => ?_)
  exact ⟨rfl, by rw [← r.length]; exact cap_le hl, I1.bk _ _ hC, hN.keeps I1.bk, tl.keeps I1.bk, fun h' ea hx => thr.made pins s1 ea h' us I1 hx⟩
end

/-! ### try -/
structure Hd where
  t : Nat → Option Bool
  nm : Option Nat
  g : Ev → M Fl
def unbK (i : Nat) : Fl → M Fl
  | .nx ρ => ret (.nx (ρ.set i none))
  | .rt d => ret (.rt d)
  | .bk ρ => ret (.bk (ρ.set i none))
  | .ct ρ => ret (.ct (ρ.set i none))
  | .xc _ _ => bad
def noF : Fl → M Fl
  | .nx ρ => ret (.nx ρ)
  | .rt d => ret (.rt d)
  | .bk ρ => ret (.bk ρ)
  | .ct ρ => ret (.ct ρ)
  | .xc _ _ => bad
def hit (h : Hd) (ρ : Ev) (x : Xn) : M Fl := match h.nm with
  | none => bnd (h.g ρ) noF
  | some i => bnd (h.g (ρ.set i (some (.exn x.cls)))) (unbK i)
def handle (ρ : Ev) (x : Xn) : List Hd → M Fl
  | [] => bad
  | h :: r => match h.t x.cls with
    | some true => hit h ρ x
    | some false => handle ρ x r
    | none => bad
def tryK (hs : List Hd) : Fl → M Fl
  | .xc ρ x => handle ρ x hs
  | .nx ρ => ret (.nx ρ)
  | .rt d => ret (.rt d)
  | .bk ρ => ret (.bk ρ)
  | .ct ρ => ret (.ct ρ)
def sTry (g : Ev → M Fl) (hs : List Hd) : Ev → M Fl := fun ρ => bnd (g ρ) (tryK hs)

/-- within an except suite -/
abbrev Cx.inH (X : Cx) (e : Value) : Cx := { X with A := X.A.mark (some e), calm := false, xe := fun _ _ => False }
/-- within a try's body -/
abbrev Cx.inT (X : Cx) (pins : List (Addr × Obj)) (xe : Value → Shared → Prop) : Cx := { X with xe := xe, pn := X.pn ++ pins }
section
variable {T : Tb} {X : Cx} {pins : List (Addr × Obj)} {st : St} {H : Hp} {s : Shared} {e : Value} {xe : Value → Shared → Prop}
theorem inv_inT (I : Inv X pins st H s) : Inv (Cx.inT X pins xe) [] st H s :=
  ⟨⟨I.ok.mod, I.ok.kind, I.ok.glob, I.ok.blt, I.ok.above, I.ok.inj, I.ok.has, I.ok.cab, I.ok.hd, I.ok.frames, I.ok.stk, I.ok.exf, I.ok.bs, I.ok.bsz, I.ok.noex, I.ok.exfs, I.ok.funs, I.ok.frf⟩, I.os, I.bare, I.base, I.loc, I.cell, I.free, I.freeC, fun p hp => I.pin p (by simpa using hp), I.hok, I.len⟩
theorem inv_outT {p1 : List (Addr × Obj)} (I : Inv (Cx.inT X pins xe) p1 st H s) : Inv X pins st H s :=
  ⟨⟨I.ok.mod, I.ok.kind, I.ok.glob, I.ok.blt, I.ok.above, I.ok.inj, I.ok.has, I.ok.cab, I.ok.hd, I.ok.frames, I.ok.stk, I.ok.exf, I.ok.bs, I.ok.bsz, I.ok.noex, I.ok.exfs, I.ok.funs, I.ok.frf⟩, I.os, I.bare, I.base, I.loc, I.cell, I.free, I.freeC, fun p hp => I.pin p (List.mem_append_left _ hp), I.hok, I.len⟩
theorem inv_inH (I : Inv X pins st H s) : Inv (Cx.inH X e) pins st H s :=
  ⟨⟨I.ok.mod, I.ok.kind, I.ok.glob, I.ok.blt, I.ok.above, I.ok.inj, I.ok.has, I.ok.cab, fun z => (by cases z), I.ok.frames, I.ok.stk, I.ok.exf, I.ok.bs, I.ok.bsz, I.ok.noex, I.ok.exfs, I.ok.funs, I.ok.frf⟩, I.os, I.bare, I.base, I.loc, I.cell, I.free, I.freeC, I.pin, I.hok, I.len⟩
theorem inv_outH (ok : X.Ok) (I : Inv (Cx.inH X e) pins st H s) : Inv X pins st H s :=
  ⟨ok, I.os, I.bare, I.base, I.loc, I.cell, I.free, I.freeC, I.pin, I.hok, I.len⟩
theorem sp_outT {D : Ends} {f : Flow} {s' : Shared} (h : SP (Cx.inT X pins xe) [] D f s') : SP X pins D f s' := by
  cases f with
  | next => obtain ⟨σ', H', I, q⟩ := h; exact ⟨σ', H', inv_outT I, q⟩
  | brk => obtain ⟨σ', H', I, q⟩ := h; exact ⟨σ', H', inv_outT I, q⟩
  | cont => obtain ⟨σ', H', I, q⟩ := h; exact ⟨σ', H', inv_outT I, q⟩
  | ret u => obtain ⟨v, σ', H', I, r, q⟩ := h; exact ⟨v, σ', H', inv_outT I, r, q⟩
theorem sp_outH (ok : X.Ok) {D : Ends} {f : Flow} {s' : Shared} (h : SP (Cx.inH X e) pins D f s') : SP X pins D f s' := by
  cases f with
  | next => obtain ⟨σ', H', I, q⟩ := h; exact ⟨σ', H', inv_outH ok I, q⟩
  | brk => obtain ⟨σ', H', I, q⟩ := h; exact ⟨σ', H', inv_outH ok I, q⟩
  | cont => obtain ⟨σ', H', I, q⟩ := h; exact ⟨σ', H', inv_outH ok I, q⟩
  | ret u => obtain ⟨v, σ', H', I, r, q⟩ := h; exact ⟨v, σ', H', inv_outH ok I, r, q⟩
end
/-- an exception that has come to this frame -/
def Lnd (X : Cx) (pins : List (Addr × Obj)) (st : St) (H : Hp) (s : Shared) (ea : Addr) (cls : Value) : Prop := ∃ H0 s0, Inv X pins st H0 s0 ∧ Fly X.prog X.w X.stack H0 s0 cls H (.ref ea) s
section
variable {T : Tb} {X : Cx} {pins : List (Addr × Obj)} {st : St} {H : Hp} {s : Shared} {ea : Addr} {cls : Value}
theorem Lnd.inv (L : Lnd X pins st H s ea cls) : Inv X pins st H s := by
  obtain ⟨H0, s0, I, F⟩ := L
  exact L2.Inv.call' (ch := []) I F.os F.un F.hok F.bare fun b z => absurd z (by simp)
theorem Lnd.next (L : Lnd X pins st H s ea cls) {M : Model} {A : Around} {E : Value → Shared → Prop} {Q : Unit → Shared → Prop} (h : ∀ s', Lnd X pins st H s' ea cls → Q () s') : wpAny M A (setFlight (.ref ea) none) Q E s := by
  obtain ⟨H0, s0, I, F⟩ := L
  obtain ⟨ea', a0, B, e, fl, hn, hnew, hT, hB, hA⟩ := F.ex
  cases e
  refine lands_m fl fun h6 fl6 sl6 => h _ ?_
  obtain ⟨un, hok⟩ := fly_un F hB hT hA fl.1 fl6.1 sl6 (fly_frames I)
  exact ⟨H0, s0, I, ⟨ea, a0, B, rfl, flym_of fl6, hn, hnew, hT, hB, hA⟩, F.os, F.bare, un, hok⟩
/-- the exception's own object -/
theorem Lnd.obj (L : Lnd X pins st H s ea cls) : H ea = none ∧ (∃ o, s.heap.get? ea = some o ∧ o.cls = cls) ∧ ∃ s0 : Shared, s0.heap.get? ea = none ∧ ∃ H0, Inv X pins st H0 s0 := by
  obtain ⟨H0, s0, I, F⟩ := L
  obtain ⟨ea', a0, B, e, fl, hn, hnew, hT, hB, hA⟩ := F.ex
  cases e
  exact ⟨hn, fl.there, s0, hnew, H0, I⟩
/-- it is tracked from here on -/
theorem Lnd.track (L : Lnd X pins st H s ea (.ref C)) : Inv X pins st (upd H ea (.ext (ExcAt C ea))) s := by
  obtain ⟨hn, ⟨o, ho, hc⟩, s0, hnew, H0, I0⟩ := L.obj
  have I := L.inv
  have ne : ∀ b u, s0.heap.get? b = some u → b ≠ ea := fun b u e z => by rw [z, hnew] at e; cases e
  have nt : ∀ b u, H b = some u → b ≠ ea := fun b u e z => by rw [z, hn] at e; cases e
  have n0 : ∀ b u, X.s₀.heap.get? b = some u → b ∉ X.ex → b ≠ ea := fun b u e hx => by obtain ⟨u', e'⟩ := I0.base.there b u e hx; exact ne b u' e'
  refine ⟨I.ok, I.os, I.bare, ⟨I.base.keep, I.base.slot, fun b u e n hx => ?_, I.base.there, fun b xs e => ?_, fun b ob u e => ?_, fun b ps e => ?_⟩, I.loc, I.cell, ?_, fun x c e => ?_, fun p hp => ?_, fun b u e => ?_, I.len⟩
  · rw [upd_ne (n0 b u e hx)]; exact I.base.free b u e n hx
  · have q := I.base.tups b xs e; rw [upd_ne (nt b _ q)]; exact q
  · have q := I.base.frzs b ob u e; rw [upd_ne (nt b _ q)]; exact q
  · obtain ⟨more, q⟩ := I.base.tbls b ps e; exact ⟨more, by rw [upd_ne (nt b _ q)]; exact q⟩
  · obtain ⟨m, ⟨u, _, _, hu, _⟩, _⟩ := I0.loc
    rw [upd_ne (ne _ u hu)]; exact I.free
  · obtain ⟨v, u, hu, _⟩ := I0.cell x c e
    rw [upd_ne (ne _ u hu)]; exact I.freeC x c e
  · obtain ⟨p1, p2, p3⟩ := I.pin p hp
    refine ⟨p1, ?_, p3⟩
    rw [upd_ne (ne _ _ (I0.pin p hp).1)]; exact p2
  · by_cases hb : b = ea
    · subst hb; rw [upd_same] at e; cases e
      exact ⟨⟨o, ho, hc⟩, ⟨o, ho⟩, fun h1 h2 ⟨u, hu, hcu⟩ k => ⟨u, k u hu, hcu⟩⟩
    · rw [upd_ne hb] at e
      exact (I.hok b u e).stay (fun c v _ q => q) (fun c q => by rw [upd_ne (nt c _ q)]; exact q) fun c xs q => by rw [upd_ne (nt c _ q)]; exact q
/-- from a callee's exception -/
theorem lnd_fly (I : Inv X pins st H s) (hs : X.stack = X.env :: X.outer) (hf : X.env.frame = some X.env.locals) {s' : Shared} {H' : Hp} {e : Value} (F : Fly X.prog X.w X.stack H s cls H' e s') {M : Model} {E : Value → Shared → Prop} {Q : Value → Shared → Prop}
    (h : ∀ ea s'', e = .ref ea → Lnd X pins st H' s'' ea cls → Q e s'') : wpAny M X.A (noteFrame e X.env) (fun _ s2 => wpAny M X.A (setFlight e none) (fun _ s3 => Q e s3) E s2) E s' := by
  obtain ⟨ea, a0, B, rfl, fl, hn, hnew, hT, hB, hA⟩ := F.ex
  have fl' : FlyM B (X.env :: X.outer) ea cls a0 s'.heap := by rw [← hs]; exact fl
  refine looks_m (by rw [← hs]; exact I.ok.frames) hf fl' fun h4 held4 sm4 => ?_
  refine wpAny_landsW held4 fun h5 fl5 sm5 => h ea _ rfl ?_
  have fl5' : Heap.FlyingW B X.stack ea cls a0 h5 := by rw [hs]; exact fl5
  obtain ⟨un, hok⟩ := fly_un F hB hT hA fl.1 fl5'.1 (sm4.trans sm5) (fly_frames I)
  exact ⟨H, s, I, ⟨ea, a0, B, rfl, flym_of fl5', hn, hnew, hT, hB, hA⟩, F.os, F.bare, un, hok⟩
/-- from one made here -/
theorem lnd_made (I : Inv X pins st H s) (hs : X.stack = X.env :: X.outer) (hf : X.env.frame = some X.env.locals) {h' : Heap} {args : List Value} (hx : Heap.MadeExcOf s.heap h' ea cls args) {M : Model} {E : Value → Shared → Prop} {Q : Unit → Shared → Prop}
    (h : ∀ s'', Lnd X pins st H s'' ea cls → Q () s'') : wpAny M X.A (noteFrame (.ref ea) X.env) (fun _ s2 => wpAny M X.A (setFlight (.ref ea) none) Q E s2) E { s with heap := h' } := by
  have ff : s.heap.FunFrames (PySem.W.hideAll s.heap (frs X.stack)) (X.env :: X.outer) := by
    have := PySem.W.funFrames_hide (as := frs X.stack) I.stack (fun env he a ha => List.mem_filterMap.mpr ⟨env, he, ha⟩)
    rwa [hs] at this ⊢
  have hid : ∀ b o, s.heap.get? b = some o → b ∉ frs X.stack → (PySem.W.hideAll s.heap (frs X.stack)).get? b = some o := fun b o e n => PySem.W.hideAll_get _ e n
  obtain ⟨t, he, htn, ht⟩ := hx.there
  have hen : (PySem.W.hideAll s.heap (frs X.stack)).get? ea = none := by
    cases q : (PySem.W.hideAll s.heap (frs X.stack)).get? ea with
    | none => rfl
    | some u => have := PySem.W.of_hideAll _ q; rw [hx.new] at this; cases this
  unfold noteFrame
  simp only [hf]
  refine wpAny_bind (wpAny_field he rfl (x := .none) rfl ?_)
  rw [if_neg (by decide)]
  refine wpAny_entryW (base := PySem.W.hideAll s.heap (frs X.stack)) (outer := X.outer) (a0 := .ref t) (by rw [← hs]; exact I.ok.frames) (ff.of_keeps fun b o e _ => ⟨o, hx.keeps b o e, rfl⟩) hf he (fun b o q => hx.keeps b o (PySem.W.of_hideAll _ q)) hen rfl (by simp) rfl fun h4 hN => ?_
  obtain ⟨k1, k2, k3, k4⟩ := hN
  refine wpAny_landsW ⟨k1, hen, k2, k3⟩ fun h5 fl5 sm5 => h _ ?_
  have fl5' : Heap.FlyingW (PySem.W.hideAll s.heap (frs X.stack)) X.stack ea cls (.ref t) h5 := by
    have z := fl5
    rwa [← hs] at z
  have x4 : ∀ b o, h'.get? b = some o → (∀ vs, o.data ≠ .fields vs) → ∃ sl, h5.get? b = some { o with slots := sl } := (show Heap.UpToSlots h' h4 from k4).trans sm5
  have stay : ∀ b o, s.heap.get? b = some o → b ∉ frs X.stack → h5.get? b = some o := fun b o e n => fl5'.1 b o (hid b o e n)
  have slots : ∀ b o, s.heap.get? b = some o → b ∈ frs X.stack → ∃ sl, h5.get? b = some { o with slots := sl } := fun b o e n => by
    obtain ⟨_, o', e', hd⟩ := I.stack.mem n
    rw [e] at e'; cases e'
    exact x4 b o (hx.keeps b o e) hd
  have nst : ∀ b o, H b = some o → b ∉ frs X.stack := fun b o e z => by rw [I.stkFree b z] at e; cases e
  have hn : H ea = none := by
    cases q : H ea with
    | none => rfl
    | some u => obtain ⟨v, e⟩ := objOk_there (I.hok _ _ q); rw [hx.new] at e; cases e
  refine ⟨H, s, I, ⟨ea, .ref t, _, rfl, flym_of fl5', hn, hx.new, fun b o e => ?_, fun b o e n hb => hid b o e hb, fun b o e hb => ⟨o, hid b o e hb⟩⟩, rfl, I.bare, ⟨fun b o e n hb _ => stay b o e hb, fun b o e n hb _ => slots b o e hb, fun b o e n _ => n, fun b o e _ => ?_, fun _ _ e => e, fun _ _ _ e => e, fun b ps e => ⟨#[], by rw [e]; simp⟩⟩, hok_of I.hok fun b o u e q => stay b u q (nst b o e)⟩
  · obtain ⟨u, q⟩ := objOk_there (I.hok _ _ e)
    exact ⟨u, hid b u q (nst b o e)⟩
  · by_cases hb : b ∈ frs X.stack
    · obtain ⟨sl, q⟩ := slots b o e hb; exact ⟨_, q⟩
    · exact ⟨o, stay b o e hb⟩
end

/-! ### the handlers -/
/-- what the name of a class in a handler says -/
def NmCls (X : Cx) (x : Str) (cv : Value) : Prop := X.mg x = some cv ∨ (X.mg x = none ∧ bootBuiltins x = some cv ∧ x ≠ "__name__")
inductive FHs (T : Tb) (X : Cx) : List ExceptHandler → List Hd → Prop where
  | nil : FHs T X [] []
  | cons {x : Str} {np pos : Pos} {cv : Value} {b₀ : Stmt} {suite : List Stmt} {t : Nat → Option Bool} {g : Ev → M Fl} {r : List ExceptHandler} {hs : List Hd} (hg : Gl X x) (hd : (x == ("__debug__" : Str)) = false) (hm : NmCls X x cv) (ht : ∀ c b, t c = some b → PySem.W.exmOne X.K (.ref (T.ca c)) cv = some b)
      (hb : ∀ e, FSs T (Cx.inH X e) (b₀ :: suite) g) (hr : FHs T X r hs) : FHs T X (.ExceptHandler (some (.Name x np)) none (b₀ :: suite) pos :: r) (⟨t, none, g⟩ :: hs)
  | consAs {x n : Str} {i : Nat} {np pos : Pos} {cv : Value} {b₀ : Stmt} {suite : List Stmt} {t : Nat → Option Bool} {g : Ev → M Fl} {r : List ExceptHandler} {hs : List Hd} (hg : Gl X x) (hd : (x == ("__debug__" : Str)) = false) (hm : NmCls X x cv) (ht : ∀ c b, t c = some b → PySem.W.exmOne X.K (.ref (T.ca c)) cv = some b)
      (hN : X.N.Nodup) (hi : X.N[i]? = some n) (hl : X.env.scope.names.lookup n = some .local)
      (hb : ∀ e, FSs T (Cx.inH X e) (b₀ :: suite) g) (hr : FHs T X r hs) : FHs T X (.ExceptHandler (some (.Name x np)) (some n) (b₀ :: suite) pos :: r) (⟨t, some i, g⟩ :: hs)
section
variable {T : Tb} {X : Cx}
theorem ld_nm {pins : List (Addr × Obj)} {st : St} {H : Hp} {s : Shared} {x : Str} {cv : Value} {pos : Pos} {E : Value → Shared → Prop} {Q : Value → Shared → Prop} (I : Inv X pins st H s) (hg : Gl X x) (hd : (x == ("__debug__" : Str)) = false) (hm : NmCls X x cv) (h : Q cv s) : wpAny (model X.prog X.w) X.A (eval (.Name x pos) X.env) Q E s := by
  rcases hm with hm | ⟨hm, hv, hn⟩
  · exact ld_glob I hg hm h hd
  · exact ld_blt I hg hm hv h hn hd
theorem post_noF {e : Value} {μ : List Addr} {H : Hp} {o : Out Fl} {D : Ends} (hp : Post T EN (RFl T) μ H (o.bind noF) (EndQ X D)) : Post T EN (RFl T) μ H o (EndQ (Cx.inH X e) D) := by
  cases o with
  | bad => exact hp
  | ex x σ => exact hp
  | ok fl σ =>
    intro μ1 gl H1 e1 r1 q1
    cases fl with
    | nx ρ => cases gl with
      | nx st => exact hp μ1 (.nx st) H1 e1 r1 q1
      | _ => exact q1.elim
    | rt ρ => cases gl with
      | rt st => exact hp μ1 (.rt st) H1 e1 r1 q1
      | _ => exact q1.elim
    | bk ρ => cases gl with
      | bk st => exact hp μ1 (.bk st) H1 e1 r1 q1
      | _ => exact q1.elim
    | ct ρ => cases gl with
      | ct st => exact hp μ1 (.ct st) H1 e1 r1 q1
      | _ => exact q1.elim
    | xc ρ x => exact hp.elim
theorem erep_unset {μ : List Addr} {H : Hp} {ρ : Ev} {st : St} (h : ERep T μ H ρ st) (i : Nat) : ERep T μ H (ρ.set i none) (st.set i none) := by
  refine ⟨by simpa using h.1, fun j d q => ?_⟩
  rw [List.getElem?_set] at q
  by_cases hj : i = j
  · subst hj; rw [if_pos rfl] at q; split at q <;> cases q
  · rw [if_neg hj] at q
    obtain ⟨v, h1, h2⟩ := h.2 j d q
    exact ⟨v, by rw [List.getElem?_set, if_neg hj]; exact h1, h2⟩
theorem post_unb {e : Value} {μ : List Addr} {H : Hp} {o : Out Fl} {D : Ends} {i : Nat} (hp : Post T EN (RFl T) μ H (o.bind (unbK i)) (EndQ X D)) : Post T EN (RFl T) μ H o (EndQ (Cx.inH X e) ⟨fun st H => D.nx (st.set i none) H, D.rt, fun st H => D.bk (st.set i none) H, fun st H => D.ct (st.set i none) H⟩) := by
  cases o with
  | bad => exact hp
  | ex x σ => exact hp
  | ok fl σ =>
    intro μ1 gl H1 e1 r1 q1
    cases fl with
    | nx ρ => cases gl with
      | nx st => exact hp μ1 (.nx (st.set i none)) H1 e1 r1 (erep_unset q1 i)
      | _ => exact q1.elim
    | rt ρ => cases gl with
      | rt st => exact hp μ1 (.rt st) H1 e1 r1 q1
      | _ => exact q1.elim
    | bk ρ => cases gl with
      | bk st => exact hp μ1 (.bk (st.set i none)) H1 e1 r1 (erep_unset q1 i)
      | _ => exact q1.elim
    | ct ρ => cases gl with
      | ct st => exact hp μ1 (.ct (st.set i none)) H1 e1 r1 (erep_unset q1 i)
      | _ => exact q1.elim
    | xc ρ x => exact hp.elim
/-- a name goes out -/
theorem inv_unset {pins : List (Addr × Obj)} {st : St} {H : Hp} {s : Shared} {n : Str} {i t : Nat} {h' : Heap} {m : Str → Option Value} (I : Inv X pins st H s) (hN : X.N.Nodup) (hi : X.N[i]? = some n) (hl : X.env.scope.names.lookup n = some .local) (hn : s.heap.Ns X.env.locals m) {w : Option Value} (hn' : h'.Ns X.env.locals fun y => if y = n then w else m y) (hs : Heap.SameBut X.env.locals s.heap h') : Inv X pins (st.set i none) H { s with heap := h', toks := t } := by
  have neL : ∀ b o, X.s₀.heap.get? b = some o → b ≠ X.env.locals := fun b o e => Nat.ne_of_lt (Nat.lt_of_lt_of_le (Heap.lt_size e) I.ok.above)
  obtain ⟨m0, hm0, hloc⟩ := I.loc
  have em : m0 = m := by
    obtain ⟨o, es, ep, ho, hd, hk, hf⟩ := hm0
    obtain ⟨o', es', ep', ho', hd', hk', hf'⟩ := hn
    rw [ho] at ho'; cases ho'
    rw [hd] at hd'; cases hd'
    funext y
    rw [← hf y, ← hf' y]
  subst em
  refine ⟨I.ok, I.os, I.bare, ⟨fun b o e n hb hx => (hs.2 b (neL b o e)).trans (I.base.keep b o e n hb hx), fun b o e n hb hx => ?_, I.base.free, fun b o e hx => ?_, I.base.tups, I.base.frzs, I.base.tbls⟩, ⟨_, hn', fun j y v e1 e2 e3 => ?_⟩, fun y c e => ?_, I.free, I.freeC, fun p hp => ?_, hok_of I.hok fun b o u e q => ?_, by simpa using I.len⟩
  · obtain ⟨sl, q⟩ := I.base.slot b o e n hb hx
    exact ⟨sl, (hs.2 b (neL b o e)).trans q⟩
  · obtain ⟨o', q⟩ := I.base.there b o e hx
    exact ⟨o', (hs.2 b (neL b o e)).trans q⟩
  · rw [List.getElem?_set] at e2
    by_cases hj : i = j
    · subst hj; rw [if_pos rfl] at e2; split at e2 <;> cases e2
    · rw [if_neg hj] at e2
      obtain ⟨u, r, lk⟩ := hloc j y v e1 e2 e3
      refine ⟨u, r, ?_⟩
      have hy : y ≠ n := fun z => hj (nodup_ix hN hi (z ▸ e1))
      rcases lk with ⟨k, q⟩ | ⟨k, c, q, z⟩
      · exact .inl ⟨k, by show (if y = n then w else m0 y) = some u; rw [if_neg hy]; exact q⟩
      · exact .inr ⟨k, c, q, z.sameBut hs (I.cne y c q)⟩
  · obtain ⟨v, z⟩ := I.cell y c e
    exact ⟨v, z.sameBut hs (I.cne y c e)⟩
  · obtain ⟨q1, q2, q3, q4⟩ := I.pin p hp
    exact ⟨(hs.2 p.1 q3).trans q1, q2, q3, q4⟩
  · exact (hs.2 b fun z => by rw [z, I.free] at e; cases e).trans q
theorem by_handlers {D : Ends} {pins : List (Addr × Obj)} {st : St} {H : Hp} {ea : Addr} {x : Xn} {μ : List Addr} {ρ : Ev} {σ : Sto} {hds : List ExceptHandler} {hs : List Hd} (h : FHs T X hds hs) (hE : ERep T μ H ρ st) (hr : Rel T μ H σ) (hp : Post T EN (RFl T) μ H (handle ρ x hs σ) (EndQ X D)) :
    ∀ s, Lnd X pins st H s ea (T.cv x) → wpAny (model X.prog X.w) X.A (handleBy (.ref ea) X.env hds) (SP X pins D) X.xe s := by
  induction h with
  | nil => exact hp.elim
  | @cons y np pos cv b₀ suite t g r hs hg hd hm ht hb hrest ih =>
    intro s L
    have I := L.inv
    obtain ⟨_, ⟨o, ho, hc⟩, _⟩ := L.obj
    refine wpAny_handleBy_cons (codeAny_handlers_test (ld_nm (X := Cx.inH X (.ref ea)) (inv_inH I) hg hd hm ?_)) (by intro q; cases q)
    unfold handle at hp
    dsimp only at hp
    cases et : t x.cls with
    | none => rw [et] at hp; exact hp.elim
    | some b =>
      rw [et] at hp
      have LT : PySem.W.Looks (model X.prog X.w) s.heap (typeOf (.ref ea)) (T.cv x) := by rw [← hc]; exact (PySem.W.Looks.ld ho).andThen .now
      refine (PySem.W.exm_one I.kIn LT (ht x.cls b et)).here ?_
      cases b with
      | false => exact ih hp s L
      | true =>
        refine codeAny_handlers_suite (L.next fun s' L' => ?_)
        exact wpAny_mono (hb (.ref ea) pins s' st H D (inv_inH L'.inv) ⟨μ, ρ, σ, hE, hr, post_noF hp⟩) (fun f s2 q => sp_outH I.ok q) fun _ _ z => z.elim
  | @consAs y n i np pos cv b₀ suite t g r hs hg hd hm ht hN hi hl hb hrest ih =>
    intro s L
    have I := L.inv
    obtain ⟨_, ⟨o, ho, hc⟩, _⟩ := L.obj
    refine wpAny_handleBy_cons (codeAny_handlers_test (ld_nm (X := Cx.inH X (.ref ea)) (inv_inH I) hg hd hm ?_)) (by intro q; cases q)
    unfold handle at hp
    dsimp only at hp
    cases et : t x.cls with
    | none => rw [et] at hp; exact hp.elim
    | some b =>
      rw [et] at hp
      have LT : PySem.W.Looks (model X.prog X.w) s.heap (typeOf (.ref ea)) (T.cv x) := by rw [← hc]; exact (PySem.W.Looks.ld ho).andThen .now
      refine (PySem.W.exm_one I.kIn LT (ht x.cls b et)).here ?_
      cases b with
      | false => exact ih hp s L
      | true =>
        refine codeAny_handlers_suite_as (L.next fun s' L' => ?_)
        have hn : H ea = none := L'.obj.1
        have I1 : Inv X pins st (upd H ea (.ext (ExcAt (T.ca x.cls) ea))) s' := Lnd.track L'
        have ex1 : Ext μ H μ (upd H ea (.ext (ExcAt (T.ca x.cls) ea))) := ext_new hn
        have out : ea ∉ μ := fun z => by obtain ⟨u, hu, _⟩ := hr.mem z; rw [hn] at hu; cases hu
        have rp : Rep T μ (upd H ea (.ext (ExcAt (T.ca x.cls) ea))) (.exn x.cls) (.ref ea) := by rw [Rep]; exact ⟨ea, rfl, out, upd_same⟩
        refine store_ok (X := Cx.inH X (.ref ea)) (v := .ref ea) (inv_inH I1) hN hi (.inl hl) rfl (fun s2 I2 => ?_) (.inr hl)
        refine wpAny_mono (hb (.ref ea) pins s2 _ _ ⟨fun st H => D.nx (st.set i none) H, D.rt, fun st H => D.bk (st.set i none) H, fun st H => D.ct (st.set i none) H⟩ I2 ⟨μ, ρ.set i (some (.exn x.cls)), σ, (hE.mono ex1).set i rp, hr.fresh hn, post_unb (Post.mono ex1 hp)⟩) (fun f s3 q => ?_) fun _ _ z => z.elim
        have cls0 : (X.env.scope.kind == .class || (X.env.scope.kind == .module && X.env.locals != X.env.globals)) = false := by rw [I.ok.kind]; rfl
        have go : ∀ {st3 : St} {H3 : Hp}, Inv (Cx.inH X (.ref ea)) pins st3 H3 s3 → (∀ s4, Inv X pins (st3.set i none) H3 s4 → SP X pins D f s4) → wpAny (model X.prog X.w) X.A (do bindName X.env n .none; unbindBehindTheSuite X.env n pos) (fun _ s₃ => SP X pins D f s₃) X.xe s3 := fun {st3 H3} I3 k => by
          have J := inv_outH I.ok I3
          obtain ⟨m, hm3, _⟩ := id J.loc
          exact wpAny_nameGoes_keeps hl hm3 cls0 fun h4 v4 hn4 sb4 => k _ (inv_unset J hN hi hl hm3 hn4 sb4)
        cases f with
        | next => obtain ⟨st3, H3, I3, q3⟩ := q; exact go I3 fun s4 I4 => ⟨_, _, I4, q3⟩
        | brk => obtain ⟨st3, H3, I3, q3⟩ := q; exact go I3 fun s4 I4 => ⟨_, _, I4, q3⟩
        | cont => obtain ⟨st3, H3, I3, q3⟩ := q; exact go I3 fun s4 I4 => ⟨_, _, I4, q3⟩
        | ret u => obtain ⟨v, st3, H3, I3, r3, q3⟩ := q; exact go I3 fun s4 I4 => ⟨v, _, _, I4, r3, q3⟩
theorem fs_try {body : List Stmt} {h₀ : ExceptHandler} {hds : List ExceptHandler} {hs : List Hd} {g : Ev → M Fl} {pos : Pos} (hst : X.stack = X.env :: X.outer) (hf : X.env.frame = some X.env.locals)
    (hb : ∀ pins xe, PassesOwn (model X.prog X.w) X.A X.env xe → FSs T (Cx.inT X pins xe) body g) (hh : FHs T X (h₀ :: hds) hs) : FS T X (.Try body (h₀ :: hds) [] [] pos) (sTry g hs) := by
  intro pins s st H D I hw
  obtain ⟨μ, ρ, σ, hE, hr, hp⟩ := hw
  refine wpAny_Try_except ?_
  refine wpAny_mono (hb pins (fun e s₁ => wpAny (model X.prog X.w) X.A (noteFrame e X.env) (fun _ s₂ => wpAny (model X.prog X.w) X.A (setFlight e none) (fun _ s₃ => wpAny (model X.prog X.w) X.A (handleBy e X.env (h₀ :: hds)) (SP X pins D) X.xe s₃) X.xe s₂) X.xe s₁) PassesOwn.looking [] s st H D (inv_inT I)
    ⟨μ, ρ, σ, hE, hr, ?_⟩) (fun f s1 q => ?_) fun _ _ z => z
  · have hp' : Post T EN (RFl T) μ H ((g ρ σ).bind (tryK hs)) (EndQ X D) := hp
    cases eo : g ρ σ with
    | bad => rw [eo] at hp'; exact hp'
    | ex x σ1 => rw [eo] at hp'; exact hp'
    | ok fl σ1 =>
      rw [eo] at hp'
      intro μ1 gl H1 e1 r1 q1
      have p1 := hp'.mono e1
      cases fl with
      | nx ρ => cases gl with
        | nx st => exact p1 μ1 (.nx st) H1 (Ext.refl _ _) r1 q1
        | _ => exact q1.elim
      | rt ρ => cases gl with
        | rt st => exact p1 μ1 (.rt st) H1 (Ext.refl _ _) r1 q1
        | _ => exact q1.elim
      | bk ρ => cases gl with
        | bk st => exact p1 μ1 (.bk st) H1 (Ext.refl _ _) r1 q1
        | _ => exact q1.elim
      | ct ρ => cases gl with
        | ct st => exact p1 μ1 (.ct st) H1 (Ext.refl _ _) r1 q1
        | _ => exact q1.elim
      | xc ρ1 x => cases gl with
        | xc st1 cls =>
          obtain ⟨hE1, rfl⟩ := q1
          refine ⟨fun p0 H0 s0 e s' I0 F => ?_, fun p0 s0 ea h' args I0 hx => ?_⟩
          · exact lnd_fly (inv_outT I0) hst hf F (Q := fun e s₃ => wpAny (model X.prog X.w) X.A (handleBy e X.env (h₀ :: hds)) (SP X pins D) X.xe s₃) fun ea s'' ee L => by subst ee; exact by_handlers hh hE1 r1 p1 s'' L
          · exact lnd_made (inv_outT I0) hst hf hx fun s'' L => by_handlers hh hE1 r1 p1 s'' L
        | _ => exact q1.elim
  · have q' := sp_outT q
    cases f with
    | next => exact wpAny_execs_nil q'
    | brk => exact q'
    | cont => exact q'
    | ret u => exact q'
end
end L4

namespace L4
open PySem PySem.Spec PyProof.Rows L2

/-! ### x = e, what e made being data -/
theorem fs_setF {T : Tb} {X : Cx} {stm : Stmt} {i : Nat} {f : Ev → M D} (h : FS T X stm (sSet i f)) : FS T X stm (sSet i (eFrz f)) := by
  intro pins s st H D I hw
  obtain ⟨μ, ρ, σ, hE, hr, hp⟩ := hw
  refine h pins s st H D I ⟨μ, ρ, σ, hE, hr, ?_⟩
  have hp' : Post T EN (RFl T) μ H (xs ρ (frz (f ρ)) (setK i ρ) σ) (EndQ X D) := hp
  show Post T EN (RFl T) μ H (xs ρ (f ρ) (setK i ρ) σ) (EndQ X D)
  unfold xs frz at hp'
  unfold xs
  cases e : f ρ σ with
  | bad => rw [e] at hp'; exact hp'
  | ex x σ1 =>
    rw [e] at hp'
    unfold frzO at hp'
    dsimp only at hp' ⊢
    by_cases ht : σ1.take σ.length = σ
    · rw [if_pos ht] at hp'
      intro μ1 gl H1 e1 r1 q1
      cases gl with
      | xc st1 c1 =>
        obtain ⟨r2, e2⟩ := Rel.down hr r1 e1 ht
        obtain ⟨qE, qc⟩ := q1
        refine hp' μ (.xc st1 c1) H1 e2 r2 ⟨⟨qE.1, fun j d ej => ?_⟩, qc⟩
        obtain ⟨v, h1, h2⟩ := qE.2 j d ej
        obtain ⟨v0, _, h4⟩ := hE.2 j d ej
        exact ⟨v, h1, Rep.down e1.pre d v0 v h4 h2⟩
      | _ => exact q1.elim
    · rw [if_neg ht] at hp'; exact hp'.elim
  | ok d σ1 =>
    rw [e] at hp'
    unfold frzO at hp'
    dsimp only at hp' ⊢
    by_cases ht : σ1.take σ.length = σ
    · rw [if_pos ht] at hp'
      cases ef : fz σ.length σ1 6 d with
      | none => rw [ef] at hp'; exact hp'.elim
      | some d' =>
        rw [ef] at hp'
        intro μ1 gl H1 e1 r1 q1
        cases gl with
        | nx st1 =>
          obtain ⟨r2, e2⟩ := Rel.down hr r1 e1 ht
          have q1' : ERep T μ1 H1 (ρ.set i (some d)) st1 := q1
          refine hp' μ (.nx st1) H1 e2 r2 ⟨by simpa using q1'.1, fun j x ej => ?_⟩
          rw [List.getElem?_set] at ej
          by_cases hj : i = j
          · subst hj
            rw [if_pos rfl] at ej
            split at ej
            · rename_i hl
              cases ej
              obtain ⟨v, h1, h2⟩ := q1'.2 i d (by rw [List.getElem?_set, if_pos rfl, if_pos hl])
              exact ⟨v, h1, fz_rep e1.pre r1 6 d d' v (by rw [hr.len]; exact ef) h2⟩
            · cases ej
          · rw [if_neg hj] at ej
            obtain ⟨v, h1, h2⟩ := q1'.2 j x (by rw [List.getElem?_set, if_neg hj]; exact ej)
            obtain ⟨v0, _, h4⟩ := hE.2 j x ej
            exact ⟨v, h1, Rep.down e1.pre x v0 v h4 h2⟩
        | _ => exact q1.elim
    · rw [if_neg ht] at hp'; exact hp'.elim

/-! ### all, any, sum -/
def blsOf : List D → Option (List Bool)
  | [] => some []
  | .bl b :: r => (blsOf r).map (b :: ·)
  | _ :: _ => none
def intsOf : List D → Option (List Int)
  | [] => some []
  | .int b :: r => (intsOf r).map (b :: ·)
  | _ :: _ => none
theorem bls_rep {T : Tb} {μ : List Addr} {H : Hp} : ∀ {ds : List D} {vs : List V} {bs : List Bool}, RepL T μ H ds vs → blsOf ds = some bs → vs = bs.map V.bl
  | [], vs, bs, r, h => by cases h; rw [RepL] at r; exact r
  | d :: ds, vs, bs, r, h => by
    rw [RepL] at r
    obtain ⟨v, w, rfl, h1, h2⟩ := r
    cases d with
    | bl b =>
      obtain ⟨cs, e1, e2⟩ := Option.map_eq_some_iff.mp h
      subst e2
      rw [Rep] at h1; subst h1
      rw [bls_rep h2 e1]; rfl
    | _ => cases h
theorem ints_rep {T : Tb} {μ : List Addr} {H : Hp} : ∀ {ds : List D} {vs : List V} {bs : List Int}, RepL T μ H ds vs → intsOf ds = some bs → vs = bs.map V.int
  | [], vs, bs, r, h => by cases h; rw [RepL] at r; exact r
  | d :: ds, vs, bs, r, h => by
    rw [RepL] at r
    obtain ⟨v, w, rfl, h1, h2⟩ := r
    cases d with
    | int b =>
      obtain ⟨cs, e1, e2⟩ := Option.map_eq_some_iff.mp h
      subst e2
      rw [Rep] at h1; subst h1
      rw [ints_rep h2 e1]; rfl
    | _ => cases h
def oAll (xs : List D) : M D := fun σ => match xs with
  | [x] => (match (seqOf σ x).bind blsOf with
    | some bs => .ok (.bl (bs.all id)) σ
    | none => .bad)
  | _ => .bad
def oSum (xs : List D) : M D := fun σ => match xs with
  | [x] => (match (seqOf σ x).bind intsOf with
    | some bs => .ok (.int bs.sum) σ
    | none => .bad)
  | _ => .bad
section
variable {T : Tb} {X : Cx}
def rAllB (K : PySem.W.Frag) (g : List Bool → Bool) : List V → Hp → VK → Prop := fun xs H Q => ∃ p bs, xs = [.ref p] ∧ (SqL K H p (bs.map V.bl) ∨ SqT K H p (bs.map V.bl)) ∧ Q (.bl (g bs)) H
theorem vals_bl : ∀ {bs : List Bool} {us : List Value}, Vals (bs.map V.bl) us → us = bs.map Value.bool
  | [], us, h => by cases h; rfl
  | b :: bs, us, h => by
    cases h with
    | cons r t => cases r; rw [vals_bl t]; rfl
theorem range_at {α : Type} (g : α → Bool) (d : α) : ∀ (bs : List α), (List.range bs.length).all (fun i => g (bs.getD i d)) = bs.all g
  | [] => rfl
  | b :: bs => by
    rw [List.length_cons, List.range_succ_eq_map, List.all_cons, List.all_map, List.all_cons]
    congr 1
    rw [← range_at g d bs]
    congr 1
theorem truth_bl {prog : Program} {w : World} {A : Around} (bs : List Bool) : TruthOf prog w A (fun i v => (bs.map Value.bool).toArray[i]? = some v) (fun i => bs.getD i false) := by
  intro i v s Q E hP hQ
  simp only [List.getElem?_toArray, List.getElem?_map] at hP
  cases e : bs[i]? with
  | none => rw [e] at hP; cases hP
  | some b =>
    rw [e] at hP; cases hP
    have hQ' : Q (bs.getD i false) s := hQ
    rw [List.getD_eq_getElem?_getD, e] at hQ'
    exact wpAny_truthy_bool hQ'
theorem kept_new {s : Shared} {o : Obj} {h' : Heap} (k : ∀ b u, b ∉ [s.heap.objs.size] → (s.heap.push o).get? b = some u → h'.get? b = some u) : ∀ b u, s.heap.get? b = some u → h'.get? b = some u := fun b u e =>
  k b u (fun z => absurd (Heap.lt_size e) (by rw [List.mem_singleton.mp z]; exact Nat.lt_irrefl _)) (Heap.get?_push_of_some _ e)
/-- a list or a tuple walked by a built-in -/
theorem walk_seq {pins : List (Addr × Obj)} {s : Shared} {st : St} {H : Hp} {p : Addr} {vs : List V} {E : Value → Shared → Prop} {Q : Value → Shared → Prop} (hh : X.A.handled = none) (I : Inv X pins st H s) (hq : SqL X.K H p vs ∨ SqT X.K H p vs)
    (h : ∀ (its : List Value) (It : Addr) (fp : List Addr) (St : Nat → Heap → Prop) (s2 : Shared), Vals vs its → Walks X.prog X.w X.A.in1 It fp [It] its.toArray.size (fun i v => its.toArray[i]? = some v) St → St 0 s2.heap → (∀ b ∈ fp, b < s2.heap.objs.size) →
      (∀ h' tk, (∀ b o, b ∉ [It] → s2.heap.get? b = some o → h'.get? b = some o) → Inv X pins st H { s2 with heap := h', toks := tk }) → Q (.ref It) s2) : wpAny (model X.prog X.w) X.A.in1 (pyIter (.ref p)) Q E s := by
  rcases hq with hq | hq
  · obtain ⟨its, rv, pl, hz⟩ := I.list hq
    have hlt : p < s.heap.objs.size := by obtain ⟨_, e, _⟩ := pl.isList; exact Heap.lt_size e
    refine wpAny_pyIter_list pl.isList (h its s.heap.objs.size [s.heap.objs.size, p] _ _ rv (Walks.list (A := X.A.in1) hh _ p (Nat.ne_of_lt hlt) its.toArray) ⟨⟨_, Heap.get?_push_size _ rfl, rfl, rfl⟩, pl.isList.push _⟩ (fun b hb => ?_) (fun h' tk hk => I.kept (kept_new hk)))
    show b < (s.heap.push _).objs.size
    rw [Heap.size_push]
    simp only [List.mem_cons, List.not_mem_nil, or_false] at hb
    rcases hb with rfl | rfl
    · exact Nat.lt_succ_self _
    · exact Nat.lt_succ_of_lt hlt
  · obtain ⟨its, rv, pl, hz⟩ := I.tuple hq
    have hlt : p < s.heap.objs.size := pl.lt
    refine wpAny_pyIter_tuple (show s.heap.IsTuple p _ from pl) (h its s.heap.objs.size [s.heap.objs.size, p] _ _ rv (Walks.tuple (A := X.A.in1) hh _ p (Nat.ne_of_lt hlt) its.toArray) ⟨⟨_, Heap.get?_push_size _ rfl, rfl, rfl⟩, Heap.IsTuple.push (show s.heap.IsTuple p _ from pl) _⟩ (fun b hb => ?_) (fun h' tk hk => I.kept (kept_new hk)))
    show b < (s.heap.push _).objs.size
    rw [Heap.size_push]
    simp only [List.mem_cons, List.not_mem_nil, or_false] at hb
    rcases hb with rfl | rfl
    · exact Nat.lt_succ_self _
    · exact Nat.lt_succ_of_lt hlt
theorem call_all (hc : X.calm = true) : CallR X (.builtin "all") (rAllB X.K fun bs => bs.all id) := by
  intro pins s st H xs us Q I r h
  obtain ⟨p, bs, rfl, hq, q⟩ := h
  obtain ⟨u, rfl, ru⟩ := vals1 r
  cases ru
  refine call_all_walk (walk_seq (I.ok.hd hc) I hq fun its It fp St s2 rv W h0 hf hI => ?_)
  have ei := vals_bl rv
  subst ei
  refine ⟨_, _, _, _, _, _, fun i => bs.getD i false, rfl, W, h0, truth_bl bs, fun h' tk hk => ⟨.bl (bs.all id), H, hI h' tk hk, ?_, q⟩⟩
  show Value.bool _ = Value.bool _
  rw [List.size_toArray, List.length_map]
  exact congrArg Value.bool (range_at id false bs)
theorem seq_bind {α : Type} {σ : Sto} {x : D} {g : List D → Option α} {bs : α} (h : (seqOf σ x).bind g = some bs) : ∃ ys, seqOf σ x = some ys ∧ g ys = some bs := Option.bind_eq_some_iff.mp h
theorem snd_all (hK : T.K = X.K) : SndCall T (rAllB X.K fun bs => bs.all id) oAll := by
  intro E μ H σ xs vs Q r p h
  match xs with
  | [] => exact h.elim
  | [x] =>
    rw [RepL] at p
    obtain ⟨v, w, rfl, p1, p2⟩ := p
    rw [RepL] at p2; subst p2
    unfold oAll at h
    cases e : (seqOf σ x).bind blsOf with
    | none => simp only [e] at h; exact h.elim
    | some bs =>
      simp only [e] at h
      obtain ⟨ys, e1, e2⟩ := seq_bind e
      obtain ⟨b, vs, rfl, h1, h2⟩ := seq_rep r p1 e1
      rw [hK, bls_rep h1 e2] at h2
      exact ⟨b, bs, rfl, h2, Post.here h r (by rw [Rep])⟩
  | _ :: _ :: _ => exact h.elim
/-! ### max, min of two ints -/
def oMax2 (xs : List D) : M D := match xs with
  | [.int i, .int j] => ret (.int (max i j))
  | _ => bad
def oMin2 (xs : List D) : M D := match xs with
  | [.int i, .int j] => ret (.int (min i j))
  | _ => bad

/-! ### is True, is False -/
def oIsT (neg : Bool) (x y : D) : M D := fun σ => match y with
  | .bl k => (match x with
    | .bl c => .ok (.bl (if neg then !(c == k) else c == k)) σ
    | .non => .ok (.bl neg) σ
    | .int _ => .ok (.bl neg) σ
    | .str _ => .ok (.bl neg) σ
    | _ => .bad)
  | _ => .bad

/-! ### len(set(xs)), ints -/
def ddp (ns : List Int) : List Int := ns.foldl step_dedup []
theorem ddp_first (ns : List Int) : firstMet (fun i => ns.getD i 0) ns.length = ddp ns := by
  unfold firstMet ddp
  congr 1
  apply List.ext_getElem?
  intro i
  by_cases h : i < ns.length
  · simp [h]
  · simp [h]
def oLenSet (x : D) : M D := fun σ => match (lsOf σ x).bind intsOf with
  | some ns => if ns.length ≤ cap then .ok (.int (ddp ns).length) σ else .bad
  | none => .bad
def rSet (K : PySem.W.Frag) : List V → Hp → VK → Prop := fun xs H Q => ∃ (p : Addr) (ns : List Int), xs = [.ref p] ∧ SqL K H p (ns.map V.int) ∧ ns.length ≤ cap ∧ ∀ l, H l = none → Q (.ref l) (upd H l (.set (fun k => (ddp ns).any (· == k)) (ddp ns).length))
theorem cap_scan {n : Nat} (h : n ≤ cap) : n + 1 < scanBound := Nat.lt_of_le_of_lt (Nat.succ_le_succ h) (by decide)
theorem call_setI (hc : X.calm = true) : CallR X (.type "set") (rSet X.K) := by
  intro pins s st H xs us Q I r h
  obtain ⟨p, ns, rfl, hq, hl, q⟩ := h
  obtain ⟨u, rfl, ru⟩ := vals1 r
  cases ru
  obtain ⟨its, rv, pl, hz⟩ := I.list hq
  have el : its.length = ns.length := by rw [← rv.length, List.length_map]
  refine call_set_list (I.ok.hd hc) pl.isList (ns := ns) (intsAre_of rv) (by rw [List.size_toArray, el]; exact cap_scan hl) fun h' tk hs hk => ?_
  rw [show its.toArray.size = ns.length by rw [List.size_toArray, el], ddp_first] at hs
  refine ⟨.ref s.heap.objs.size, _, I.laid (t' := tk) (o := .set (fun k => (ddp ns).any (· == k)) (ddp ns).length) (fun b o e => hk b o (Heap.lt_size e) e) (Nat.le_refl _) ?_, rfl, q _ (I.hok.fresh (Nat.le_refl _))⟩
  exact hs
theorem call_lenS : CallR X (.builtin "len") (fun xs H Q => ∃ (p : Addr) (S : Int → Bool) (n : Nat), xs = [.ref p] ∧ H p = some (.set S n) ∧ Q (.int n) H) := by
  intro pins s st H xs us Q I r h
  obtain ⟨p, S, n, rfl, hp, q⟩ := h
  obtain ⟨u, rfl, ru⟩ := vals1 r
  cases ru
  obtain ⟨o, es, ep, t, h1, h2, h3, h4, h5, h6, h7, h8⟩ := (show ObjOk X.prog X.w H s.heap p (.set S n) from I.hok p _ hp)
  refine call_len_set h1 h2 h3 h7 (by have : scanBound ≤ 2 ^ 62 := by decide
                                      omega) ⟨.int n, H, I.tok _, ⟨_, by rw [h8]⟩, q⟩
theorem fe_lenSet {e : Expr} {f : Ev → M D} {p p2 pos pos2 : Pos} (hK : T.K = X.K) (hc : X.calm = true) (hg : Gl X "len") (hm : X.mg "len" = none) (hg2 : Gl X "set") (hm2 : X.mg "set" = none) (he : FE T X e f)
    (hs : starEach [e] X.env = (false, eval e X.env) :: starEach [] X.env := by rfl) (hpl : (backTo pos2 (starEach [] X.env)).any (·.1) = false := by rfl)
    (hs2 : starEach [.Call (.Name "set" p2) [e] [] pos2] X.env = (false, eval (.Call (.Name "set" p2) [e] [] pos2) X.env) :: starEach [] X.env := by rfl) (hpl2 : (backTo pos (starEach [] X.env)).any (·.1) = false := by rfl) :
    FE T X (.Call (.Name "len" p) [.Call (.Name "set" p2) [e] [] pos2] [] pos) (eUn oLenSet f) := by
  intro pins s st H Q I h
  refine pe_callB call_lenS hg hm PySem.boot_len (pa_cons (pe_callTy (call_setI hc) hg2 hm2 rfl (pa_cons he pa_nil hs) (by decide) (by decide) hs hpl) pa_nil hs2) (by decide) (by decide) hs2 hpl2 pins s st H Q I ?_
  obtain ⟨μ, ρ, σ, hE, hr, hp⟩ := h
  refine ⟨μ, ρ, σ, hE, hr, hp.bind fun d σ1 μ1 v H1 _ e1 r1 q1 p1 => ?_⟩
  unfold oLenSet at p1
  cases e2 : (lsOf σ1 d).bind intsOf with
  | none => rw [e2] at p1; exact p1.elim
  | some ns =>
    rw [e2] at p1
    dsimp only at p1
    by_cases hl : ns.length ≤ cap
    · rw [if_pos hl] at p1
      obtain ⟨ys, e3, e4⟩ := Option.bind_eq_some_iff.mp e2
      obtain ⟨a, vs, rfl, h1, h2⟩ := r1.ls q1 e3
      have ev := ints_rep h2 e4
      subst ev
      refine ⟨a, ns, rfl, SqL.of h1, hl, fun l hn => ?_⟩
      exact ⟨l, _, _, rfl, upd_same, p1 μ1 (.int (ddp ns).length) _ (ext_new hn) (r1.fresh hn) (by rw [Rep])⟩
    · rw [if_neg hl] at p1; exact p1.elim

/-! ### slices -/
def cutD (xs : List D) (lo hi : Option Int) : List D := (xs.drop (HT.sIx xs.length 0 lo)).take (HT.sIx xs.length xs.length hi - HT.sIx xs.length 0 lo)
theorem cutD_whole {xs : List D} {lo hi : Option Int} (h : HT.sIx xs.length 0 lo = 0 ∧ HT.sIx xs.length xs.length hi = xs.length) : cutD xs lo hi = xs := by
  unfold cutD; rw [h.1, h.2]; simp
theorem cutD_rep {μ : List Addr} {H : Hp} {xs : List D} {vs : List V} (r : RepL T μ H xs vs) (lo hi : Option Int) : RepL T μ H (cutD xs lo hi) (cutV vs lo hi) := by
  unfold cutD cutV
  rw [r.length]
  exact RepL.take _ (RepL.drop _ r)
end
end L4
namespace HT
open PySem PySem.Spec PyProof.Rows
variable {prog : Program} {w : World} {A : Around} {E : Value → Shared → Prop} {s : Shared}
theorem getItem_tuple_all {t sl : Addr} {items : Array Value} {vl vu : Value} {lo hi : Option Int} {Q : Value → Shared → Prop} (ht : IsTup s.heap t items) (hs : s.heap.IsSliceOf sl vl vu .none) (pl : IsPart vl lo) (pu : IsPart vu hi)
    (hw : sIx items.size 0 lo = 0 ∧ sIx items.size items.size hi = items.size) (h : Q (.ref t) s) : wpAny (model prog w) A (getItem (.ref t) (.ref sl)) Q E s := by
  obtain ⟨os, hos, hcs, hds⟩ := id hs
  have hTs : s.TypeIs (.ref sl) "slice" := ⟨os, hos, hcs⟩
  unfold getItem
  try with_reducible refine wpAny_holding ?_
  first | refine wpAny_bind (wpAny_pure ?_) | skip
  refine wpAny_bind (wpAny_sequenceKey ht.typeIs (by decide) ?_)
  refine wpAny_bind (wpAny_callSpecial?_slot (name := Str.ofString "__getitem__") ht.typeIs PyProof.Rows.slot_tuple_getitem
    (wpAny_call_entry PyProof.Rows.slot_tuple_getitem ht.typeIs entry_tuple_getitem ?_ (args_tuple_getitem _ _)))
  show wpAny _ _ (Builtin.Tuple.tupleItemsOf (.ref t) >>= _) _ _ s
  refine wpAny_bind (tupleItemsOf_ ht ?_)
  refine wpAny_bind (wpAny_typeOf hTs ?_)
  rw [if_pos (by decide)]
  refine wpAny_bind (sliceApplied_gen hs pl pu ?_)
  have hyes : (((sIx items.size 0 lo : Nat) : Int) == 0 && (1 : Int) == 1 && (sIx items.size items.size hi - sIx items.size 0 lo) == items.size) = true := by
    rw [hw.1, hw.2]; simp
  show wpAny _ _ (if (((sIx items.size 0 lo : Nat) : Int) == 0 && (1 : Int) == 1 && (sIx items.size items.size hi - sIx items.size 0 lo) == items.size) = true then _ else _) _ _ s
  rw [if_pos hyes]
  obtain ⟨o, ho, hc, hr⟩ := id ht
  unfold Builtin.Tuple.tupleIsExact
  refine wpAny_bind (wpAny_bind (wpAny_typeOf ht.typeIs ?_))
  refine wpAny_pure ?_
  rw [if_pos (by decide)]
  refine wpAny_bind (wpAny_rule ?_)
  first
    | exact wpAny_pure ⟨_, rfl, wpAny_pure h⟩
    | exact wpAny_pure (wpAny_pure ⟨_, rfl, wpAny_pure h⟩)
    | exact wpAny_bind (wpAny_pure (wpAny_pure ⟨_, rfl, wpAny_pure h⟩))
end HT
namespace L4
open PySem PySem.Spec PyProof.Rows L2
section
variable {T : Tb} {X : Cx}
def rSlA (K : PySem.W.Frag) : V → Option Int → Option Int → Hp → VK → Prop := fun x lo hi H Q => ∃ a xs, x = .ref a ∧ SqT K H a xs ∧ (HT.sIx xs.length 0 lo = 0 ∧ HT.sIx xs.length xs.length hi = xs.length) ∧ Q (.ref a) H
theorem sl_all : SlR X (rSlA X.K) := by
  intro pins s st H x v vl vu lo hi sl Q I rx hs pl pu h
  obtain ⟨a, xs, rfl, hx, hw, q⟩ := h
  cases rx
  obtain ⟨its, r, ht, hz⟩ := I.tuple hx
  have hlen : its.toArray.size = xs.length := by rw [List.size_toArray]; exact r.length.symm
  exact ⟨"tuple", _, PyProof.Rows.slot_tuple_getitem.lookup, ht.typeIs, HT.getItem_tuple_all ht hs pl pu (by rw [hlen]; exact hw) ⟨.ref a, H, I, rfl, q⟩⟩
/-- the parts of a slice -/
abbrev PF := Option (Ev → M D)
def partK (d : D) : M (Option Int) := match d with
  | .int i => ret (some i)
  | _ => bad
def ePart (p : PF) : Ev → M (Option Int) := match p with
  | none => fun _ => ret none
  | some f => fun ρ => bnd (f ρ) partK
def tP (T : Tb) (X : Cx) (f : Ev → M (Option Int)) : TO := fun st H Q => ∃ μ ρ σ, ERep T μ H ρ st ∧ Rel T μ H σ ∧ Post T (XE X st) (fun _ _ a b => b = a) μ H (f ρ σ) Q
abbrev FO (T : Tb) (X : Cx) (e : Option Expr) (p : PF) : Prop := PO X e (tP T X (ePart p))
theorem fo_none : FO T X none none := by
  intro pins s st H Q I h
  obtain ⟨μ, ρ, σ, hE, hr, hp⟩ := h
  exact po_none pins s st H Q I (Post.here hp hr rfl)
theorem fo_some {e : Expr} {f : Ev → M D} (he : FE T X e f) : FO T X (some e) (some f) := by
  intro pins s st H Q I h
  refine po_some he pins s st H Q I ?_
  obtain ⟨μ, ρ, σ, hE, hr, hp⟩ := h
  refine ⟨μ, ρ, σ, hE, hr, Post.bind hp fun d σ1 μ1 v H1 _ e1 r1 q1 p1 => ?_⟩
  cases d with
  | int i => exact ⟨i, int_of q1, Post.here p1 r1 rfl⟩
  | _ => exact p1.elim
def cutO (x : D) (lo hi : Option Int) : M D := fun σ => match x with
  | .tup xs => .ok (.tup (cutD xs lo hi)) σ
  | .scr ns => .ok (.lst (cutD (ns.map D.int) lo hi)) σ
  | x => (match lsOf σ x with
    | some xs => .ok (.lst (cutD xs lo hi)) σ
    | none => .bad)
def sl2K (x : D) (lo : Option Int) (hi : Option Int) : M D := cutO x lo hi
def sl1K (x : D) (hi : M (Option Int)) (lo : Option Int) : M D := bnd hi (sl2K x lo)
def sl0K (lo hi : M (Option Int)) (x : D) : M D := bnd lo (sl1K x hi)
def eSl (f : Ev → M D) (lo hi : PF) : Ev → M D := fun ρ => bnd (f ρ) (sl0K (ePart lo ρ) (ePart hi ρ))
theorem fe_slice {e : Expr} {lo hi : Option Expr} {f : Ev → M D} {pl ph : PF} {pos p2 : Pos} (hK : T.K = X.K) (he : FE T X e f) (hl : FO T X lo pl) (hh : FO T X hi ph) : FE T X (.Subscript e (.Slice lo hi none p2) pos) (eSl f pl ph) := by
  intro pins s st H Q I h
  refine pe_slice (SlR.or sl_tup (SlR.or sl_all sl_list)) he hl hh pins s st H Q I ?_
  obtain ⟨μ, ρ, σ, hE, hr, hp⟩ := h
  refine ⟨μ, ρ, σ, hE, hr, hp.bind fun d σ1 μ1 v H1 _ e1 r1 q1 p1 => ⟨μ1, ρ, σ1, hE.mono e1, r1, p1.bind fun l σ2 μ2 l' H2 _ e2 r2 q2 p2 => ⟨μ2, ρ, σ2, (hE.mono e1).mono e2, r2, p2.bind fun u σ3 μ3 u' H3 _ e3 r3 q3 p3 => ?_⟩⟩⟩
  have q2' : l' = l := q2
  have q3' : u' = u := q3
  subst q2'; subst q3'
  have rd : Rep T μ3 H3 d v := Rep.mono e3 _ _ (Rep.mono e2 _ _ q1)
  have lists : ∀ ys, lsOf σ3 d = some ys → Post T (XE X st) (Rep T) μ3 H3 (.ok (.lst (cutD ys l' u')) σ3) Q → rSlT X.K v l' u' H3 Q ∨ rSlA X.K v l' u' H3 Q ∨ rSlL X.K v l' u' H3 Q := fun ys ey p4 => by
    obtain ⟨a, vs, rfl, h1, h2⟩ := r3.ls rd ey
    exact .inr (.inr ⟨a, vs, rfl, SqL.of h1, fun p hn => new_lv p4 r3 (cutD_rep h2 l' u') hn⟩)
  cases d with
  | tup xs =>
    have rd0 := rd
    rw [Rep] at rd
    obtain ⟨p, vs, rfl, h1, h2⟩ := rd
    by_cases hw : HT.sIx vs.length 0 l' = 0 ∧ HT.sIx vs.length vs.length u' = vs.length
    · refine .inr (.inl ⟨p, vs, rfl, SqT.of h1, hw, Post.here (d := D.tup (cutD xs l' u')) p3 r3 ?_⟩)
      rw [cutD_whole (by rw [h2.length]; exact hw)]; exact rd0
    · exact .inl ⟨p, vs, rfl, SqT.of h1, hw, fun q hn => new_tup p3 r3 (cutD_rep h2 l' u') hn⟩
  | ref n =>
    unfold sl2K cutO at p3
    dsimp only at p3
    cases ey : lsOf σ3 (.ref n) with
    | none => rw [ey] at p3; exact p3.elim
    | some ys => rw [ey] at p3; exact lists ys ey p3
  | lst ys => exact lists ys rfl p3
  | scr ns =>
    rw [Rep] at rd
    obtain ⟨p, rfl, h1⟩ := rd
    have h2 := h1.seq
    rw [hK] at h2
    exact .inr (.inr ⟨p, _, rfl, h2, fun p hn => new_lv p3 r3 (cutD_rep (repl_ints ns) l' u') hn⟩)
  | _ => exact p3.elim
/-! ### min, max of a sequence of ints -/
def mnL (bs : List Int) : Int := bs.foldl min (bs.getD 0 0)
def mxL (bs : List Int) : Int := bs.foldl max (bs.getD 0 0)
theorem foldl_min : ∀ (bs : List Int) (c : Int), (bs.foldl min c ≤ c ∧ ∀ b ∈ bs, bs.foldl min c ≤ b) ∧ (bs.foldl min c = c ∨ bs.foldl min c ∈ bs)
  | [], c => by simp
  | b :: bs, c => by
    obtain ⟨⟨h1, h2⟩, h3⟩ := foldl_min bs (min c b)
    rw [List.foldl_cons]
    refine ⟨⟨by omega, fun x hx => ?_⟩, ?_⟩
    · rcases List.mem_cons.mp hx with rfl | hx
      · omega
      · exact h2 x hx
    · rcases h3 with h3 | h3
      · rw [h3, Int.min_def]; split
        · exact .inl rfl
        · exact .inr List.mem_cons_self
      · exact .inr (List.mem_cons_of_mem _ h3)
theorem foldl_max : ∀ (bs : List Int) (c : Int), (c ≤ bs.foldl max c ∧ ∀ b ∈ bs, b ≤ bs.foldl max c) ∧ (bs.foldl max c = c ∨ bs.foldl max c ∈ bs)
  | [], c => by simp
  | b :: bs, c => by
    obtain ⟨⟨h1, h2⟩, h3⟩ := foldl_max bs (max c b)
    rw [List.foldl_cons]
    refine ⟨⟨by omega, fun x hx => ?_⟩, ?_⟩
    · rcases List.mem_cons.mp hx with rfl | hx
      · omega
      · exact h2 x hx
    · rcases h3 with h3 | h3
      · rw [h3, Int.max_def]; split
        · exact .inr List.mem_cons_self
        · exact .inl rfl
      · exact .inr (List.mem_cons_of_mem _ h3)
theorem mnL_of {bs : List Int} {i : Nat} (hi : i < bs.length) (h : ∀ j, j < bs.length → bs.getD i 0 ≤ bs.getD j 0) : bs.getD i 0 = mnL bs := by
  have hm : ∀ j, j < bs.length → bs.getD j 0 ∈ bs := fun j hj => by rw [List.getD_eq_getElem?_getD, List.getElem?_eq_getElem hj]; exact List.getElem_mem hj
  have h0 : 0 < bs.length := by omega
  obtain ⟨⟨h1, h2⟩, h3⟩ := foldl_min bs (bs.getD 0 0)
  have a := h2 _ (hm i hi)
  have b : bs.getD i 0 ≤ mnL bs := by
    rcases h3 with h3 | h3
    · show _ ≤ bs.foldl min (bs.getD 0 0); rw [h3]; exact h 0 h0
    · obtain ⟨j, hj, e⟩ := List.getElem_of_mem h3
      have := h j hj
      rw [List.getD_eq_getElem?_getD (i := j), List.getElem?_eq_getElem hj] at this
      show _ ≤ bs.foldl min (bs.getD 0 0); rw [← e]; exact this
  exact Int.le_antisymm b a
theorem mxL_of {bs : List Int} {i : Nat} (hi : i < bs.length) (h : ∀ j, j < bs.length → bs.getD j 0 ≤ bs.getD i 0) : bs.getD i 0 = mxL bs := by
  have hm : ∀ j, j < bs.length → bs.getD j 0 ∈ bs := fun j hj => by rw [List.getD_eq_getElem?_getD, List.getElem?_eq_getElem hj]; exact List.getElem_mem hj
  have h0 : 0 < bs.length := by omega
  obtain ⟨⟨h1, h2⟩, h3⟩ := foldl_max bs (bs.getD 0 0)
  have a := h2 _ (hm i hi)
  have b : mxL bs ≤ bs.getD i 0 := by
    rcases h3 with h3 | h3
    · show bs.foldl max (bs.getD 0 0) ≤ _; rw [h3]; exact h 0 h0
    · obtain ⟨j, hj, e⟩ := List.getElem_of_mem h3
      have := h j hj
      rw [List.getD_eq_getElem?_getD (i := j), List.getElem?_eq_getElem hj] at this
      show bs.foldl max (bs.getD 0 0) ≤ _; rw [← e]; exact this
  exact Int.le_antisymm a b
def rMnI (K : PySem.W.Frag) (f : List Int → Int) : List V → Hp → VK → Prop := fun xs H Q => ∃ (p : Addr) (bs : List Int), xs = [.ref p] ∧ (SqL K H p (bs.map V.int) ∨ SqT K H p (bs.map V.int)) ∧ 0 < bs.length ∧ Q (.int (f bs)) H
theorem ints_at {bs : List Int} {its : List Value} {i : Nat} {v : Value} (rv : Vals (bs.map V.int) its) (hv : its.toArray[i]? = some v) : ∃ t, v = Value.int (bs.getD i 0) t := by
  simp only [List.getElem?_toArray] at hv
  obtain ⟨x, h1, h2⟩ := vals_get rv hv
  rw [List.getElem?_map] at h1
  cases e : bs[i]? with
  | none => rw [e] at h1; cases h1
  | some b =>
    rw [e] at h1; cases h1
    obtain ⟨t, rfl⟩ := h2
    exact ⟨t, by show Value.int b t = Value.int (bs.getD i 0) t; rw [List.getD_eq_getElem?_getD, e]; rfl⟩
theorem call_minI (hc : X.calm = true) : CallR X (.builtin "min") (rMnI X.K mnL) := by
  intro pins s st H xs us Q I r h
  obtain ⟨p, bs, rfl, hq, h0, q⟩ := h
  obtain ⟨u, rfl, ru⟩ := vals1 r
  cases ru
  refine call_min_walk (walk_seq (I.ok.hd hc) I hq fun its It fp St s2 rv W hz hf hI => ?_)
  have el : its.toArray.size = bs.length := by rw [List.size_toArray, ← rv.length, List.length_map]
  refine ⟨_, _, _, _, _, _, _, rfl, W, hz, hf, by omega, CmpOf.ints_lt (fun i => bs.getD i 0) (fun i v hv => ints_at rv hv), fun v h' tk hv hk => ?_⟩
  obtain ⟨t, rfl⟩ := ints_at rv hv
  obtain ⟨b1, b2⟩ := argBest_lt (fun i => bs.getD i 0) (its.toArray.size - 1)
  refine ⟨.int (mnL bs), H, hI h' tk hk, ⟨t, ?_⟩, q⟩
  rw [mnL_of (i := argBest (fun i j => decide (bs.getD i 0 < bs.getD j 0)) (its.toArray.size - 1)) (by omega) (fun j hj => b2 j (by omega))]
theorem call_maxI (hc : X.calm = true) : CallR X (.builtin "max") (rMnI X.K mxL) := by
  intro pins s st H xs us Q I r h
  obtain ⟨p, bs, rfl, hq, h0, q⟩ := h
  obtain ⟨u, rfl, ru⟩ := vals1 r
  cases ru
  refine call_max_walk (walk_seq (I.ok.hd hc) I hq fun its It fp St s2 rv W hz hf hI => ?_)
  have el : its.toArray.size = bs.length := by rw [List.size_toArray, ← rv.length, List.length_map]
  refine ⟨_, _, _, _, _, _, _, rfl, W, hz, hf, by omega, CmpOf.ints_gt (fun i => bs.getD i 0) (fun i v hv => ints_at rv hv), fun v h' tk hv hk => ?_⟩
  obtain ⟨t, rfl⟩ := ints_at rv hv
  obtain ⟨b1, b2⟩ := argBest_gt (fun i => bs.getD i 0) (its.toArray.size - 1)
  refine ⟨.int (mxL bs), H, hI h' tk hk, ⟨t, ?_⟩, q⟩
  rw [mxL_of (i := argBest (fun i j => decide (bs.getD i 0 > bs.getD j 0)) (its.toArray.size - 1)) (by omega) (fun j hj => b2 j (by omega))]
def oMnI (f : List Int → Int) (xs : List D) : M D := fun σ => match xs with
  | [x] => (match (seqOf σ x).bind intsOf with
    | some (b :: bs) => .ok (.int (f (b :: bs))) σ
    | _ => .bad)
  | _ => .bad
theorem snd_mnI {f : List Int → Int} (hK : T.K = X.K) : SndCall T (rMnI X.K f) (oMnI f) := by
  intro E μ H σ xs vs Q r p h
  match xs with
  | [] => exact h.elim
  | [x] =>
    rw [RepL] at p
    obtain ⟨v, w, rfl, p1, p2⟩ := p
    rw [RepL] at p2; subst p2
    unfold oMnI at h
    cases e : (seqOf σ x).bind intsOf with
    | none => simp only [e] at h; exact h.elim
    | some bs =>
      cases bs with
      | nil => simp only [e] at h; exact h.elim
      | cons b bs =>
        simp only [e] at h
        obtain ⟨ys, e1, e2⟩ := seq_bind e
        obtain ⟨a, vs, rfl, h1, h2⟩ := seq_rep r p1 e1
        rw [hK, ints_rep h1 e2] at h2
        exact ⟨a, b :: bs, rfl, h2, by simp, Post.here h r (by rw [Rep])⟩
  | _ :: _ :: _ => exact h.elim
/-! ### xs * n -/
end
end L4

namespace L4
open PySem PySem.Spec PyProof.Rows L2

/-! ### defs with defaults -/
def HasFnD (K : PySem.W.Frag) (mg : Str → Option Value) (x : Str) (st : Stmt) (ps : List Str) (dv : List Value) : Prop :=
  ∃ f fd, mg x = some (.ref f) ∧ PySem.W.keepIn K (.ref f) = true ∧ (∃ (oc : Value) (od : Option Addr) (dV kV doc pm : Value) (an : Option Addr) (cdv ct : Value) (osl : Array (Option Value)),
    fd = PySem.W.fnOf x x (defArgs st) (defBody st) (defScope st) dV kV doc pm an cdv ct ∧ K.lookup f = some ⟨oc, od, .func fd, osl⟩ ∧ PySem.W.codeIn K cdv x = true) ∧ Binds K fd ps [] ∧ Binds K fd ps dv
def OkD (T : Tb) (P : Program) (w : World) (mg : Str → Option Value) (base : Heap) (k : Nat) (x : Str) (ps : List Str) (dv : List Value) (fn : List D → M D) : Prop :=
  ∃ f fd, mg x = some (.ref f) ∧ PySem.W.keepIn T.K (.ref f) = true ∧ Binds T.K fd ps [] ∧ Binds T.K fd ps dv ∧ FnOk P w T.K mg base (CXE P w) k f fd ps (spF T ps.length fn)
section
variable {T : Tb} {X : Cx}
theorem fe_callD0 {k : Nat} {ps : List Str} {dv : List Value} {fn : List D → M D} {x : Str} {p pos : Pos} {e : Expr} {es : List Expr} {fs : Ev → M (List D)} (h : OkD T X.prog X.w X.mg X.base k x ps dv fn) (hK : T.K = X.K) (hr : Room k X.A) (hg : Gl X x)
    (ha : FA T X (e :: es) fs) (hdb : (x == ("__debug__" : Str)) = false := by decide) (he : starEach (e :: es) X.env = (false, eval e X.env) :: starEach es X.env := by rfl) (hpl : (backTo pos (starEach es X.env)).any (·.1) = false := by rfl) :
    FE T X (.Call (.Name x p) (e :: es) [] pos) (eFn ps.length fn [] fs) := by
  obtain ⟨f, fd, hm, hk, hb, _, hF⟩ := h
  rw [hK] at hk hF hb
  exact fe_call (dds := []) (dvs := []) hF hr hg hm hk hb .nil (fun _ _ => RepL.nil) ha hdb he hpl
variable {P : Program} {w : World} {K : PySem.W.Frag} {mg : Str → Option Value} {base : Heap} {ca : Nat → Addr}
theorem ok_ofD {k : Nat} {x : Str} {st : Stmt} {ps N : List Str} {dv : List Value} {g : Ev → M Fl} (h : HasFnD K mg x st ps dv) (S : FnScope N ps (defScope st))
    (hb : ∀ (f : Addr) (cdv : Value) (A : Around) (outer : List Env) (s : Shared) (H : Hp) (E : XK), Room k (A.deeper (envOfC x (defScope st) s.heap.objs.size f cdv)) → FSs ⟨K, ca⟩ (cxOf (CXE P w) P w K mg base N x (defScope st) f cdv A outer s H E) (defBody st) g) :
    OkD ⟨K, ca⟩ P w mg base (k + 1) x ps dv (run N.length g) := by
  obtain ⟨f, fd, hm, hk, ⟨oc, od, dV, kV, doc, pm, an, cdv, ct, osl, rfl, lk, hcd⟩, b0, b1⟩ := h
  exact ⟨f, _, hm, hk, b0, b1, fok lk hcd S (hb f cdv)⟩
theorem OkD.frz {k : Nat} {x : Str} {ps : List Str} {dv : List Value} {fn : List D → M D} (h : OkD T P w mg base k x ps dv fn) : OkD T P w mg base k x ps dv (fun ds => L4.frz (fn ds)) := by
  obtain ⟨f, fd, h1, h2, h3, h4, h5⟩ := h
  exact ⟨f, fd, h1, h2, h3, h4, fok_frz h5⟩
theorem mkFD {h : Heap} {x : Str} {st : Stmt} {ps : List Str} {f t : Addr} {dv : List Value} {oc toc : Value} {od an tod : Option Addr} {osl tsl : Array (Option Value)} {kV doc pm cdv ct : Value} {tn : Nat} (X : K.In h) (G : h.Ns mainGlobals mg)
    (hb : ∀ (t : Addr) (kV doc pm : Value) (an : Option Addr) (cdv ct : Value) (s : Shared) (o : Obj) (n : Nat) (us : List Value), s.heap.get? t = some o → o.data = .seq dv.toArray n → ((us ++ []).length = ps.length → BindsTo s (PySem.W.fnOf x x (defArgs st) (defBody st) (defScope st) (.ref t) kV doc pm an cdv ct) ⟨us, []⟩ (ps.zip (us ++ []))) ∧
      ((us ++ dv).length = ps.length → BindsTo s (PySem.W.fnOf x x (defArgs st) (defBody st) (defScope st) (.ref t) kV doc pm an cdv ct) ⟨us, []⟩ (ps.zip (us ++ dv))))
    (a : PySem.W.nsIn K mainGlobals x = some (some (.ref f))) (l : K.lookup f = some ⟨oc, od, .func (PySem.W.fnOf x x (defArgs st) (defBody st) (defScope st) (.ref t) kV doc pm an cdv ct), osl⟩)
    (c : PySem.W.codeIn K cdv x = true) (k : PySem.W.keepIn K (.ref f) = true) (d : K.lookup t = some ⟨toc, tod, .seq dv.toArray tn, tsl⟩) : HasFnD K mg x st ps dv :=
  ⟨f, _, PySem.W.mg_of X G a, k, ⟨oc, od, _, kV, doc, pm, an, cdv, ct, osl, rfl, l, c⟩, fun s us KX hl => (hb t kV doc pm an cdv ct s _ tn us (KX _ _ d) rfl).1 hl, fun s us KX hl => (hb t kV doc pm an cdv ct s _ tn us (KX _ _ d) rfl).2 hl⟩
end
/-! ### which classes a handler takes -/
def htab (l : List (Nat × Bool)) : Nat → Option Bool := fun c => l.lookup c
abbrev veB : List Value := [.type "ValueError", .type "Exception", .type "BaseException", .type "object"]
def HtOk (K : PySem.W.Frag) (ca : Nat → Addr) (cv : Value) (l : List (Nat × Bool)) : Prop := ∀ p ∈ l, PySem.W.exmOne K (.ref (ca p.1)) cv = some p.2
theorem ht_nil {K : PySem.W.Frag} {ca : Nat → Addr} {cv : Value} : HtOk K ca cv [] := fun _ h => nomatch h
theorem ht_cons {K : PySem.W.Frag} {ca : Nat → Addr} {cv : Value} {c : Nat} {b : Bool} {l : List (Nat × Bool)} (h : PySem.W.exmOne K (.ref (ca c)) cv = some b) (r : HtOk K ca cv l) : HtOk K ca cv ((c, b) :: l) := fun p hp => by
  rcases List.mem_cons.mp hp with rfl | hp
  · exact h
  · exact r p hp
theorem lk_mem : ∀ {l : List (Nat × Bool)} {c : Nat} {b : Bool}, l.lookup c = some b → (c, b) ∈ l
  | [], _, _, h => by simp at h
  | (n, d) :: r, c, b, h => by
    rw [List.lookup_cons] at h
    cases e : c == n with
    | true => rw [e] at h; cases h; rw [eq_of_beq e]; exact List.mem_cons_self
    | false => rw [e] at h; exact List.mem_cons_of_mem _ (lk_mem h)
theorem ht_of {K : PySem.W.Frag} {ca : Nat → Addr} {cv : Value} {l : List (Nat × Bool)} (h : HtOk K ca cv l) : ∀ c b, htab l c = some b → PySem.W.exmOne K (.ref (ca c)) cv = some b := fun c b e => h (c, b) (lk_mem e)
/-! ### xs * n -/

/-! ### a function that the kernel does not open -/
theorem OkF.hide {T : Tb} {P : Program} {w : World} {mg : Str → Option Value} {base : Heap} {k : Nat} {x : Str} {ps : List Str} {fn : List D → M D} (h : OkF T P w mg base k x ps fn) : OkF T P w mg base k x ps (L4.hide fn) := by rw [hide_eq]; exact h
theorem OkD.hide {T : Tb} {P : Program} {w : World} {mg : Str → Option Value} {base : Heap} {k : Nat} {x : Str} {ps : List Str} {dv : List Value} {fn : List D → M D} (h : OkD T P w mg base k x ps dv fn) : OkD T P w mg base k x ps dv (L4.hide fn) := by rw [hide_eq]; exact h
end L4

/-! Own classes: fields, methods, making. -/
namespace L4
open PySem PySem.Spec PyProof.Rows L2
section
variable {T : Tb} {X : Cx} {μ : List Addr} {H : Hp} {σ : Sto}
/-- class and fields of an instance -/
def insOf (σ : Sto) : D → Option (Nat × List (Str × D))
  | .obj c ns ds => if ns.length = ds.length then some (c, ns.zip ds) else none
  | .ref n => match σ[n]? with
    | some (.ins c fs) => some (c, fs)
    | _ => none
  | _ => none
/-! ### e.f -/
/-! ### e.f = v -/
def putD (f : Str) (v : D) : List (Str × D) → List (Str × D)
  | [] => [(f, v)]
  | (g, x) :: r => if g = f then (g, v) :: r else (g, x) :: putD f v r
theorem RepF.mono {μ' : List Addr} {H' : Hp} (e : Ext μ H μ' H') {fs : List (Str × D)} {vs : List (Str × V)} (h : RepF T μ H fs vs) : RepF T μ' H' fs vs := Paired.mapP h fun _ _ q => ⟨q.1, Rep.mono e _ _ q.2⟩
theorem RepF.length {fs : List (Str × D)} {vs : List (Str × V)} (h : RepF T μ H fs vs) : fs.length = vs.length := Paired.length h
def oPut (cs : List Nat) (f : Str) (d x : D) : M Unit := fun σ => match x with
  | .ref n => (match σ[n]? with
    | some (.ins c fs) => if (cs.contains c && decide (fs.length < 1000)) = true then .ok () (σ.set n (.ins c (putD f d fs))) else .bad
    | _ => .bad)
  | _ => .bad
def putK2 (ρ : Ev) (cs : List Nat) (f : Str) (d x : D) : M Fl := fun σ => match oPut cs f d x σ with
  | .ok _ σ' => .ok (.nx ρ) σ'
  | _ => .bad
def putK1 (ρ : Ev) (cs : List Nat) (f : Str) (fo : Ev → M D) (d : D) : M Fl := xs ρ (fo ρ) (putK2 ρ cs f d)
def sPut (cs : List Nat) (f : Str) (fv fo : Ev → M D) : Ev → M Fl := fun ρ => xs ρ (fv ρ) (putK1 ρ cs f fo)
/-! ### C(..) -/
def noneO (n : Nat) : Out D → Out D
  | .ok .non σ' => .ok (.ref n) σ'
  | .ok _ _ => .bad
  | .ex x σ' => .ex x σ'
  | .bad => .bad
def makeK (c n : Nat) (fn : List D → M D) (ds : List D) : M D := fun σ => if ds.length + 1 = n then noneO σ.length (fn (.ref σ.length :: ds) (σ ++ [.ins c []])) else .bad
def eMake (c n : Nat) (fn : List D → M D) (fs : Ev → M (List D)) : Ev → M D := fun ρ => bnd (fs ρ) (makeK c n fn)
/-- a function at an address, with what it does -/
def OkA (T : Tb) (P : Program) (w : World) (mg : Str → Option Value) (base : Heap) (k : Nat) (f : Addr) (ps : List Str) (fn : List D → M D) : Prop :=
  ∃ fd, (∀ us : List Value, us.length = ps.length → bindArgs fd ⟨us, []⟩ = pure (ps.zip us)) ∧ FnOk P w T.K mg base (CXE P w) k f fd ps (spF T ps.length fn)
/-! ### o.m(..) -/
/-- for each class: what its method does -/
structure OkM (T : Tb) (P : Program) (w : World) (mg : Str → Option Value) (base : Heap) (k : Nat) (m : Str) (c : Nat) (ps : List Str) (fn : List D → M D) : Prop where
  cl : Cls T.K (T.ca c)
  ex : ∃ f, Meth T.K (T.ca c) m f ∧ OkA T P w mg base k f ps fn
abbrev Mt := List (Nat × (List D → M D))
def lkM : Mt → Nat → Option (List D → M D)
  | [], _ => none
  | (c, fn) :: r, d => if c == d then some fn else lkM r d
def mthK2 (n : Nat) (fn : List D → M D) (x : D) (ds : List D) : M D := if ds.length + 1 = n then fn (x :: ds) else bad
def mthK (tb : Mt) (n : Nat) (m : Str) (fs : M (List D)) (x : D) : M D := fun σ => match insOf σ x with
  | some (c, gs) => (match lkM tb c, gs.lookup m with
    | some fn, none => bnd fs (mthK2 n fn x) σ
    | _, _ => .bad)
  | none => .bad
def eMth (tb : Mt) (n : Nat) (m : Str) (f : Ev → M D) (fs : Ev → M (List D)) : Ev → M D := fun ρ => bnd (f ρ) (mthK tb n m (fs ρ))
/-! ### C.m(self, ..) -/
structure OkU (T : Tb) (P : Program) (w : World) (mg : Str → Option Value) (base : Heap) (k : Nat) (x m : Str) (c : Nat) (ps : List Str) (fn : List D → M D) : Prop where
  gl : mg x = some (.ref (T.ca c))
  sp : PySem.W.specialIn T.K (.ref (T.ca c)) (Str.ofString "__getattribute__") = some (some (.builtin "type.__getattribute__"))
  ex : ∃ f mc, PySem.W.readsIn T.K (T.ca c) mc = true ∧ PySem.W.findCls T.K (.ref (T.ca c)) mc m = some (.val (.ref f)) ∧ PySem.W.keepIn T.K (.ref f) = true ∧ OkA T P w mg base k f ps fn
end
/-! ### the text's methods: a function found in a class -/
structure HasM (K : PySem.W.Frag) (C : Addr) (x qual : Str) (st : Stmt) (ps : List Str) (f : Addr) : Prop where
  ex : ∃ fd, Fun K x qual st f fd ∧ ∀ us : List Value, us.length = ps.length → bindArgs fd ⟨us, []⟩ = pure (ps.zip us)
section
variable {P : Program} {w : World} {K : PySem.W.Frag} {mg : Str → Option Value} {base : Heap} {ca : Nat → Addr}
theorem OkA.frz {T : Tb} {k : Nat} {f : Addr} {ps : List Str} {fn : List D → M D} (h : OkA T P w mg base k f ps fn) : OkA T P w mg base k f ps (fun ds => L4.frz (fn ds)) := by
  obtain ⟨fd, h3, h4⟩ := h
  exact ⟨fd, h3, fok_frz h4⟩
theorem OkA.hide {T : Tb} {k : Nat} {f : Addr} {ps : List Str} {fn : List D → M D} (h : OkA T P w mg base k f ps fn) : OkA T P w mg base k f ps (L4.hide fn) := by rw [hide_eq]; exact h
end

/-! ### for the printed text -/
section
variable {T : Tb} {P : Program} {w : World} {mg : Str → Option Value} {base : Heap}
end
section
variable {T : Tb} {X : Cx}
end
end L4

/-! Reckoning with the data's functions, by simp. -/
namespace L4
open PySem L2
theorem nr {α : Type} {a b : α} (h : a = b) : a = b := h
section
variable {α β : Type} {ρ : Ev} {σ : Sto}
@[simp] theorem bind_ok (a : α) (σ : Sto) (k : α → M β) : (Out.ok a σ).bind k = k a σ := nr rfl
@[simp] theorem bind_ex (x : Xn) (σ : Sto) (k : α → M β) : (Out.ex x σ : Out α).bind k = .ex x σ := nr rfl
@[simp] theorem bind_bad (k : α → M β) : (Out.bad : Out α).bind k = .bad := nr rfl
@[simp] theorem ret_ap (a : α) (σ : Sto) : ret a σ = .ok a σ := nr rfl
@[simp] theorem bad_ap (σ : Sto) : (bad : M α) σ = .bad := nr rfl
@[simp] theorem bnd_ap (m : M α) (k : α → M β) (σ : Sto) : bnd m k σ = (m σ).bind k := nr rfl
@[simp] theorem eC_ap (d : D) : eC d ρ σ = .ok d σ := nr rfl
@[simp] theorem eVar_0 (d : D) (r : Ev) : eVar 0 (some d :: r) σ = .ok d σ := nr rfl
@[simp] theorem eVar_S (i : Nat) (o : Option D) (r : Ev) : eVar (i + 1) (o :: r) σ = eVar i r σ := nr rfl
@[simp] theorem eBin_ap (o : D → D → M D) (a b : Ev → M D) : eBin o a b ρ σ = (a ρ σ).bind (binK o (b ρ)) := nr rfl
@[simp] theorem binK_ap (o : D → D → M D) (m : M D) (x : D) : binK o m x σ = (m σ).bind (o x) := nr rfl
@[simp] theorem eUn_ap (o : D → M D) (a : Ev → M D) : eUn o a ρ σ = (a ρ σ).bind o := nr rfl
@[simp] theorem tst_ap (b : Bool) : tst (.bl b) σ = .ok b σ := nr rfl
@[simp] theorem ifK_t (p q : M α) : ifK p q true σ = p σ := nr rfl
@[simp] theorem ifK_f (p q : M α) : ifK p q false σ = q σ := nr rfl
@[simp] theorem notK_ap (c : Bool) : notK c σ = .ok (!c) σ := nr rfl
@[simp] theorem testK_ap (k : Bool → M α) (b : Bool) : testK k (.bl b) σ = k b σ := nr rfl
@[simp] theorem nboxK_ap (c : Bool) : nboxK c σ = .ok (.bl (!c)) σ := nr rfl
@[simp] theorem eT_ap (f : Ev → M D) : eT f ρ σ = (f ρ σ).bind tst := nr rfl
@[simp] theorem bAnd_ap (a b : Ev → M Bool) : bAnd a b ρ σ = (a ρ σ).bind (ifK (b ρ) (ret false)) := nr rfl
@[simp] theorem bOr_ap (a b : Ev → M Bool) : bOr a b ρ σ = (a ρ σ).bind (ifK (ret true) (b ρ)) := nr rfl
@[simp] theorem bNot_ap (a : Ev → M Bool) : bNot a ρ σ = (a ρ σ).bind notK := nr rfl
@[simp] theorem eAnd_ap (a b : Ev → M D) : eAnd a b ρ σ = (a ρ σ).bind (testK (ifK (b ρ) (ret (.bl false)))) := nr rfl
@[simp] theorem eOr_ap (a b : Ev → M D) : eOr a b ρ σ = (a ρ σ).bind (testK (ifK (ret (.bl true)) (b ρ))) := nr rfl
@[simp] theorem eNot_ap (a : Ev → M D) : eNot a ρ σ = (a ρ σ).bind (testK nboxK) := nr rfl
@[simp] theorem eIf_ap (t : Ev → M Bool) (a b : Ev → M D) : eIf t a b ρ σ = (t ρ σ).bind (ifK (a ρ) (b ρ)) := nr rfl
@[simp] theorem aNil_ap : aNil ρ σ = .ok [] σ := nr rfl
@[simp] theorem aCons_ap (e : Ev → M D) (r : Ev → M (List D)) : aCons e r ρ σ = (e ρ σ).bind (aConsK (r ρ)) := nr rfl
@[simp] theorem aConsK_ap (m : M (List D)) (x : D) : aConsK m x σ = (m σ).bind (consK x) := nr rfl
@[simp] theorem consK_ap (x : D) (xs : List D) : consK x xs σ = .ok (x :: xs) σ := nr rfl
@[simp] theorem eTup_ap (a : Ev → M (List D)) : eTup a ρ σ = (a ρ σ).bind tupK := nr rfl
@[simp] theorem tupK_0 : tupK [] σ = .ok (.tup []) σ := nr rfl
@[simp] theorem tupK_1 (a : D) : tupK [a] σ = .ok (.tup [a]) σ := nr rfl
@[simp] theorem tupK_2 (a b : D) : tupK [a, b] σ = .ok (.tup [a, b]) σ := nr rfl
@[simp] theorem tupK_3 (a b c : D) : tupK [a, b, c] σ = .ok (.tup [a, b, c]) σ := nr rfl
@[simp] theorem tupK_4 (a b c d : D) : tupK [a, b, c, d] σ = .ok (.tup [a, b, c, d]) σ := nr rfl
@[simp] theorem tupK_5 (a b c d e : D) : tupK [a, b, c, d, e] σ = .ok (.tup [a, b, c, d, e]) σ := nr rfl
@[simp] theorem eLv_ap (a : Ev → M (List D)) : eLv a ρ σ = (a ρ σ).bind lvK := nr rfl
theorem lvK_ap {ds : List D} (h : Nat.ble ds.length 1000 = true) : lvK ds σ = .ok (.lst ds) σ := by unfold lvK; rw [if_pos (show ds.length ≤ cap from Nat.le_of_ble_eq_true h)]; rfl
@[simp] theorem eLst_ap (a : Ev → M (List D)) : eLst a ρ σ = (a ρ σ).bind lstK := nr rfl
@[simp] theorem lstK_0 : lstK [] σ = .ok (.ref σ.length) (σ ++ [.lst []]) := nr rfl
/-! operations -/
@[simp] theorem oI_ap (g : Int → Int → Int) (i j : Int) : oI g (.int i) (.int j) σ = .ok (.int (g i j)) σ := nr rfl
@[simp] theorem oB_ap (g : Int → Int → Bool) (i j : Int) : oB g (.int i) (.int j) σ = .ok (.bl (g i j)) σ := nr rfl
theorem oIC_ap {C : Int → Int → Bool} {g : Int → Int → Int} {i j : Int} (h : C i j = true) : oIC C g (.int i) (.int j) σ = .ok (.int (g i j)) σ := by
  show (if C i j = true then ret _ else bad) σ = _; rw [if_pos h]; rfl
@[simp] theorem oDiv_ap (i j : Int) (h : 0 < j) (h2 : j < 1073741824) : oDiv (.int i) (.int j) σ = .ok (.int (i / j)) σ := oIC_ap (by simp [cDiv, h, h2])
@[simp] theorem oMod_ap (i j : Int) (h : 0 < j) : oMod (.int i) (.int j) σ = .ok (.int (i % j)) σ := oIC_ap (by simp [cMod, h])
@[simp] theorem oShr_ap (i j : Int) (h : 0 ≤ j) : oShr (.int i) (.int j) σ = .ok (.int (i / 2 ^ j.toNat)) σ := oIC_ap (by simp [cShr, h])
theorem oPow_ap {i j : Int} (h : cPow i j = true) : oPow (.int i) (.int j) σ = .ok (.int (i ^ j.toNat)) σ := oIC_ap h
@[simp] theorem p12 : oPow (.int 10) (.int 12) σ = .ok (.int 1000000000000) σ := oPow_ap (by simp [cPow])
@[simp] theorem p6 : oPow (.int 10) (.int 6) σ = .ok (.int 1000000) σ := oPow_ap (by simp [cPow])
@[simp] theorem p4 : oPow (.int 10) (.int 4) σ = .ok (.int 10000) σ := oPow_ap (by simp [cPow])
@[simp] theorem p40 : oPow (.int 10) (.int 40) σ = .ok (.int (10 ^ 40)) σ := oPow_ap (by simp [cPow])
@[simp] theorem oNeg_ap (i : Int) : oNeg (.int i) σ = .ok (.int (-i)) σ := nr rfl
@[simp] theorem oAdd_int (i j : Int) : oAdd (.int i) (.int j) σ = .ok (.int (i + j)) σ := nr rfl
theorem oAdd_lst {xs ys : List D} (h : xs.length + ys.length ≤ cap) : oAdd (.lst xs) (.lst ys) σ = .ok (.lst (xs ++ ys)) σ := by
  show oAddL (.lst xs) (.lst ys) σ = _; unfold oAddL; simp only [lsOf]; rw [if_pos h]
@[simp] theorem oIsN_non (σ : Sto) : oIsN .non .non σ = .ok (.bl true) σ := nr rfl
@[simp] theorem oIsN_bl (b : Bool) : oIsN (.bl b) .non σ = .ok (.bl false) σ := nr rfl
@[simp] theorem oIsN_int (b : Int) : oIsN (.int b) .non σ = .ok (.bl false) σ := nr rfl
@[simp] theorem oIsN_tup (b : List D) : oIsN (.tup b) .non σ = .ok (.bl false) σ := nr rfl
@[simp] theorem oIsN_lst (b : List D) : oIsN (.lst b) .non σ = .ok (.bl false) σ := nr rfl
@[simp] theorem oIsN_str (b : Str) : oIsN (.str b) .non σ = .ok (.bl false) σ := nr rfl
@[simp] theorem oNotN_non (σ : Sto) : oNotN .non .non σ = .ok (.bl false) σ := nr rfl
@[simp] theorem oNotN_int (b : Int) : oNotN (.int b) .non σ = .ok (.bl true) σ := nr rfl
@[simp] theorem oNotN_tup (b : List D) : oNotN (.tup b) .non σ = .ok (.bl true) σ := nr rfl
theorem oEq_of {x y : D} {b : Bool} (h : eqD σ 8 x y = some b) : oEq x y σ = .ok (.bl b) σ := by unfold oEq; rw [h]
theorem oNe_of {x y : D} {b : Bool} (h : eqD σ 8 x y = some b) : oNe x y σ = .ok (.bl (!b)) σ := by unfold oNe; rw [h]
@[simp] theorem oEq_int (i j : Int) : oEq (.int i) (.int j) σ = .ok (.bl (i == j)) σ := oEq_of (by simp [eqD, kd, eqK, eqV])
@[simp] theorem oNe_int (i j : Int) : oNe (.int i) (.int j) σ = .ok (.bl (!(i == j))) σ := oNe_of (by simp [eqD, kd, eqK, eqV])
@[simp] theorem oEq_str (i j : Str) : oEq (.str i) (.str j) σ = .ok (.bl (i == j)) σ := oEq_of (by simp [eqD, kd, eqK, eqV])
@[simp] theorem oNe_bl (i j : Bool) : oNe (.bl i) (.bl j) σ = .ok (.bl (!(i == j))) σ := oNe_of (by simp [eqD, kd, eqK, eqV])
@[simp] theorem oEq_bl (i j : Bool) : oEq (.bl i) (.bl j) σ = .ok (.bl (i == j)) σ := oEq_of (by simp [eqD, kd, eqK, eqV])
/-! places -/
theorem oIx_tup {xs : List D} {k : Int} {d : D} (h : atI xs k = some d) : oIx (.tup xs) (.int k) σ = .ok d σ := by simp [oIx, seqOf, h]
theorem oIx_lst {xs : List D} {k : Int} {d : D} (h : atI xs k = some d) : oIx (.lst xs) (.int k) σ = .ok d σ := by simp [oIx, seqOf, h]
@[simp] theorem ix_t0 (a : D) (r : List D) : oIx (.tup (a :: r)) (.int 0) σ = .ok a σ := oIx_tup (show atI _ ((0 : Nat) : Int) = _ from atI_nat rfl)
@[simp] theorem ix_t1 (a b : D) (r : List D) : oIx (.tup (a :: b :: r)) (.int 1) σ = .ok b σ := oIx_tup (show atI _ ((1 : Nat) : Int) = _ from atI_nat rfl)
@[simp] theorem ix_t2 (a b c : D) (r : List D) : oIx (.tup (a :: b :: c :: r)) (.int 2) σ = .ok c σ := oIx_tup (show atI _ ((2 : Nat) : Int) = _ from atI_nat rfl)
@[simp] theorem ix_t3 (a b c d : D) (r : List D) : oIx (.tup (a :: b :: c :: d :: r)) (.int 3) σ = .ok d σ := oIx_tup (show atI _ ((3 : Nat) : Int) = _ from atI_nat rfl)
@[simp] theorem oLen_tup (xs : List D) : oLen [.tup xs] σ = .ok (.int xs.length) σ := nr rfl
@[simp] theorem oLen_lst (xs : List D) : oLen [.lst xs] σ = .ok (.int xs.length) σ := nr rfl
@[simp] theorem oLen_scr (xs : List Int) : oLen [.scr xs] σ = .ok (.int xs.length) σ := by simp [oLen, seqOf]
@[simp] theorem oTuple_lst (xs : List D) : oTuple [.lst xs] σ = .ok (.tup xs) σ := nr rfl
@[simp] theorem oTuple_tup (xs : List D) : oTuple [.tup xs] σ = .ok (.tup xs) σ := nr rfl
@[simp] theorem eCall_ap (o : List D → M D) (fs : Ev → M (List D)) : eCall o fs ρ σ = (fs ρ σ).bind o := nr rfl
@[simp] theorem eFn_ap (n : Nat) (f : List D → M D) (dds : List D) (fs : Ev → M (List D)) : eFn n f dds fs ρ σ = (fs ρ σ).bind (fnK n f dds) := nr rfl
@[simp] theorem fnK_1 (f : List D → M D) (a : D) : fnK 1 f [] [a] σ = f [a] σ := by unfold fnK; rw [if_pos (by simp)]; simp
@[simp] theorem fnK_2 (f : List D → M D) (a b : D) : fnK 2 f [] [a, b] σ = f [a, b] σ := by unfold fnK; rw [if_pos (by simp)]; simp
@[simp] theorem fnK_3 (f : List D → M D) (a b c : D) : fnK 3 f [] [a, b, c] σ = f [a, b, c] σ := by unfold fnK; rw [if_pos (by simp)]; simp
@[simp] theorem fnK_3d (f : List D → M D) (a b c : D) : fnK 3 f [c] [a, b] σ = f [a, b, c] σ := by unfold fnK; rw [if_pos (by simp)]; simp
@[simp] theorem fnK_4 (f : List D → M D) (a b c d : D) : fnK 4 f [] [a, b, c, d] σ = f [a, b, c, d] σ := by unfold fnK; rw [if_pos (by simp)]; simp
@[simp] theorem fnK_5 (f : List D → M D) (a b c d e : D) : fnK 5 f [] [a, b, c, d, e] σ = f [a, b, c, d, e] σ := by unfold fnK; rw [if_pos (by simp)]; simp
@[simp] theorem fnK_7 (f : List D → M D) (a b c d e g h : D) : fnK 7 f [] [a, b, c, d, e, g, h] σ = f [a, b, c, d, e, g, h] σ := by unfold fnK; rw [if_pos (by simp)]; simp
@[simp] theorem fnK_6 (f : List D → M D) (a b c d e g : D) : fnK 6 f [] [a, b, c, d, e, g] σ = f [a, b, c, d, e, g] σ := by unfold fnK; rw [if_pos (by simp)]; simp
/-! statements -/
@[simp] theorem sNil_ap : sNil ρ σ = .ok (.nx ρ) σ := nr rfl
@[simp] theorem sSeq_ap (g h : Ev → M Fl) : sSeq g h ρ σ = (g ρ σ).bind (seqK h) := nr rfl
@[simp] theorem seqK_nx (h : Ev → M Fl) (ρ : Ev) : seqK h (.nx ρ) σ = h ρ σ := nr rfl
@[simp] theorem seqK_rt (h : Ev → M Fl) (d : D) : seqK h (.rt d) σ = .ok (.rt d) σ := nr rfl
@[simp] theorem seqK_xc (h : Ev → M Fl) (ρ : Ev) (x : Xn) : seqK h (.xc ρ x) σ = .ok (.xc ρ x) σ := nr rfl
@[simp] theorem seqK_bk (h : Ev → M Fl) (ρ : Ev) : seqK h (.bk ρ) σ = .ok (.bk ρ) σ := nr rfl
@[simp] theorem seqK_ct (h : Ev → M Fl) (ρ : Ev) : seqK h (.ct ρ) σ = .ok (.ct ρ) σ := nr rfl
def xsO (ρ : Ev) (k : α → M Fl) : Out α → Out Fl
  | .ok a σ' => k a σ'
  | .ex x σ' => .ok (.xc ρ x) σ'
  | .bad => .bad
@[simp] theorem xs_ap (ρ : Ev) (m : M α) (k : α → M Fl) : xs ρ m k σ = xsO ρ k (m σ) := by unfold xs xsO; cases m σ <;> rfl
@[simp] theorem xsO_ok (ρ : Ev) (k : α → M Fl) (a : α) : xsO ρ k (.ok a σ) = k a σ := nr rfl
@[simp] theorem xsO_ex (ρ : Ev) (k : α → M Fl) (x : Xn) : xsO ρ k (.ex x σ) = .ok (.xc ρ x) σ := nr rfl
@[simp] theorem xsO_bad (ρ : Ev) (k : α → M Fl) : xsO ρ k (.bad : Out α) = .bad := nr rfl
@[simp] theorem sRet_ap (f : Ev → M D) : sRet f ρ σ = xsO ρ retK (f ρ σ) := xs_ap ..
@[simp] theorem retK_ap (d : D) : retK d σ = .ok (.rt d) σ := nr rfl
@[simp] theorem sExp_ap (f : Ev → M D) : sExp f ρ σ = xsO ρ (expK ρ) (f ρ σ) := xs_ap ..
@[simp] theorem expK_ap (d : D) : expK ρ d σ = .ok (.nx ρ) σ := nr rfl
@[simp] theorem sSet_ap (i : Nat) (f : Ev → M D) : sSet i f ρ σ = xsO ρ (setK i ρ) (f ρ σ) := xs_ap ..
@[simp] theorem setK_ap (i : Nat) (d : D) : setK i ρ d σ = .ok (.nx (ρ.set i (some d))) σ := nr rfl
@[simp] theorem sIf_ap (t : Ev → M Bool) (a b : Ev → M Fl) : sIf t a b ρ σ = xsO ρ (ifK (a ρ) (b ρ)) (t ρ σ) := xs_ap ..
@[simp] theorem sAsg_ap (f : Ev → M D) (tg : D → Ev → Option Ev) : sAsg f tg ρ σ = xsO ρ (asgK tg ρ) (f ρ σ) := xs_ap ..
@[simp] theorem asgK_1 (i j k : Nat) (a b c : D) : asgK (tgT 3 (tgCons (tgN i) (tgCons (tgN j) (tgCons (tgN k) tgNil)))) ρ (.tup [a, b, c]) σ = .ok (.nx (((ρ.set i (some a)).set j (some b)).set k (some c))) σ := nr rfl
@[simp] theorem asgK_2 (i j : Nat) (a b : D) : asgK (tgT 2 (tgCons (tgN i) (tgCons (tgN j) tgNil))) ρ (.tup [a, b]) σ = .ok (.nx ((ρ.set i (some a)).set j (some b))) σ := nr rfl
@[simp] theorem sRaise_ap (c : Nat) (fs : Ev → M (List D)) : sRaise c fs ρ σ = xsO ρ (raiseK c ρ) (fs ρ σ) := xs_ap ..
@[simp] theorem raiseK_1 (c : Nat) (d : D) : raiseK c ρ [d] σ = .ok (.xc ρ ⟨c⟩) σ := nr rfl
@[simp] theorem sTry_ap (g : Ev → M Fl) (hs : List Hd) : sTry g hs ρ σ = (g ρ σ).bind (tryK hs) := nr rfl
@[simp] theorem tryK_nx (hs : List Hd) : tryK hs (.nx ρ) σ = .ok (.nx ρ) σ := nr rfl
@[simp] theorem tryK_rt (hs : List Hd) (d : D) : tryK hs (.rt d) σ = .ok (.rt d) σ := nr rfl
@[simp] theorem tryK_xc (hs : List Hd) (x : Xn) : tryK hs (.xc ρ x) σ = handle ρ x hs σ := nr rfl
theorem handle_t {h : Hd} {r : List Hd} {x : Xn} (e : h.t x.cls = some true) : handle ρ x (h :: r) σ = hit h ρ x σ := by unfold handle; rw [e]
theorem handle_f {h : Hd} {r : List Hd} {x : Xn} (e : h.t x.cls = some false) : handle ρ x (h :: r) σ = handle ρ x r σ := by
  show (match h.t x.cls with | some true => hit h ρ x | some false => handle ρ x r | none => bad) σ = _
  rw [e]
@[simp] theorem hit_ap (t : Nat → Option Bool) (g : Ev → M Fl) (x : Xn) : hit ⟨t, none, g⟩ ρ x σ = (g ρ σ).bind noF := nr rfl
@[simp] theorem noF_nx : noF (.nx ρ) σ = .ok (.nx ρ) σ := nr rfl
@[simp] theorem noF_rt (d : D) : noF (.rt d) σ = .ok (.rt d) σ := nr rfl
@[simp] theorem run_ap (n : Nat) (g : Ev → M Fl) (ds : List D) : run n g ds σ = runO (g (ds.map some ++ List.replicate (n - ds.length) none) σ) := nr rfl
@[simp] theorem runO_rt (d : D) : runO (.ok (.rt d) σ) = .ok d σ := nr rfl
@[simp] theorem runO_nx : runO (.ok (.nx ρ) σ) = .ok .non σ := nr rfl
@[simp] theorem runO_xc (x : Xn) : runO (.ok (.xc ρ x) σ) = .ex x σ := nr rfl
@[simp] theorem frz_ap (f : M D) : frz f σ = frzO σ (f σ) := nr rfl
@[simp] theorem eFrz_ap (f : Ev → M D) : eFrz f ρ σ = frzO σ (f ρ σ) := nr rfl
theorem fz_cl {k m : Nat} {σ : Sto} {d : D} (h : cl d = true) : fz k σ m d = some d := by cases m <;> (unfold fz; rw [if_pos h])
/-- data come back as they are -/
theorem frzO_cl {σ' : Sto} {d : D} (h : cl d = true) (ht : σ'.take σ.length = σ) : frzO σ (.ok d σ') = .ok d σ := by
  unfold frzO; dsimp only; rw [if_pos ht, fz_cl h]
@[simp] theorem frzO_ex : frzO σ (.ex x σ) = .ex x σ := by unfold frzO; dsimp only; rw [if_pos List.take_length]
@[simp] theorem frzO_same {d : D} (h : cl d = true) : frzO σ (.ok d σ) = .ok d σ := frzO_cl h List.take_length
/-- a list just made -/
theorem frzO_lst {j j' : Sto} {xs : List D} (h : clL xs = true) : frzO σ (.ok (.ref σ.length) (σ ++ [.lst xs] ++ j)) = .ok (.lst xs) σ := by
  unfold frzO
  dsimp only
  rw [if_pos (by simp)]
  have e : fz σ.length (σ ++ [.lst xs] ++ j) 6 (.ref σ.length) = some (.lst xs) := by
    unfold fz
    rw [if_neg (by simp [cl])]
    dsimp only
    rw [if_neg (Nat.lt_irrefl _)]
    have : (σ ++ [Ob.lst xs] ++ j)[σ.length]? = some (.lst xs) := by simp
    rw [this]
    dsimp only
    have hl : ∀ (ys : List D) (m : Nat), clL ys = true → fzL (fz σ.length (σ ++ [.lst xs] ++ j) m) ys = some ys := by
      intro ys m
      induction ys with
      | nil => intro _; rfl
      | cons y ys ih =>
        intro hc
        have hc' : cl y = true ∧ clL ys = true := by simpa [clL, Bool.and_eq_true] using hc
        unfold fzL
        rw [fz_cl hc'.1, ih hc'.2]
    rw [hl xs 5 h]
    rfl
  rw [e]

@[simp] theorem cl_int (i : Int) : cl (.int i) = true := by simp [cl]
@[simp] theorem cl_bl (i : Bool) : cl (.bl i) = true := by simp [cl]
@[simp] theorem cl_str (i : Str) : cl (.str i) = true := by simp [cl]
@[simp] theorem cl_non : cl .non = true := by simp [cl]
@[simp] theorem cl_tup (xs : List D) : cl (.tup xs) = clL xs := by simp [cl]
@[simp] theorem cl_lst (xs : List D) : cl (.lst xs) = clL xs := by simp [cl]
@[simp] theorem cl_ref (n : Nat) : cl (.ref n) = false := by simp [cl]
@[simp] theorem clL_nil : clL [] = true := by simp [clL]
@[simp] theorem clL_cons (d : D) (ds : List D) : clL (d :: ds) = (cl d && clL ds) := by simp [clL]
theorem clL_all : ∀ {ds : List D}, (∀ d ∈ ds, cl d = true) → clL ds = true
  | [], _ => by simp
  | d :: ds, h => by rw [clL_cons, h d List.mem_cons_self, clL_all fun x hx => h x (List.mem_cons_of_mem _ hx)]; rfl
theorem clL_map {γ : Type} {f : γ → D} {l : List γ} (h : ∀ x, cl (f x) = true) : clL (l.map f) = true := clL_all fun d hd => by obtain ⟨x, _, rfl⟩ := List.mem_map.mp hd; exact h x
@[simp] theorem clL_ints (l : List Int) : clL (l.map D.int) = true := clL_map cl_int
@[simp] theorem clL_app (xs ys : List D) : clL (xs ++ ys) = (clL xs && clL ys) := by
  induction xs with
  | nil => simp
  | cons x xs ih => simp [ih, Bool.and_assoc]
/-! products -/
theorem oMul_ap {i j : Int} (h : cMul i j = true) : oMul (.int i) (.int j) σ = .ok (.int (i * j)) σ := oIC_ap h
theorem cMul_L {i j : Int} (h : -(2 ^ 64) < i) (h2 : i < 2 ^ 64) : cMul i j = true := by simp only [cMul, hide_eq, Bool.or_eq_true, Bool.and_eq_true, decide_eq_true_eq]; exact .inl ⟨h, h2⟩
theorem cMul_R {i j : Int} (h : -(2 ^ 64) < j) (h2 : j < 2 ^ 64) : cMul i j = true := by simp only [cMul, hide_eq, Bool.or_eq_true, Bool.and_eq_true, decide_eq_true_eq]; exact .inr ⟨h, h2⟩
/-! a place in a written list -/
theorem atI_D {xs : List D} {k : Int} (h0 : 0 ≤ k) (h : k < xs.length) : atI xs k = some (xs.getD k.toNat .non) := by
  obtain ⟨n, rfl⟩ := Int.eq_ofNat_of_zero_le h0
  have hn : n < xs.length := by omega
  refine atI_nat ?_
  show xs[n]? = some (xs.getD n .non)
  rw [List.getD_eq_getElem?_getD, List.getElem?_eq_getElem hn]; rfl
theorem atI_I {is : List Int} {k : Int} (h0 : 0 ≤ k) (h : k < is.length) : atI (is.map D.int) k = some (.int (is.getD k.toNat 0)) := by
  rw [atI_D h0 (by simpa using h)]
  have hn : k.toNat < is.length := by omega
  simp [hn]
@[simp] theorem ixI2 (n a b : Int) : oIx (.lst [.int a, .int b]) (.int (n % 2)) σ = .ok (.int ([a, b].getD (n % 2).toNat 0)) σ := oIx_lst (atI_I (is := [a, b]) (by omega) (by simp; omega))
@[simp] theorem ixI3 (n a b c : Int) : oIx (.lst [.int a, .int b, .int c]) (.int (n % 3)) σ = .ok (.int ([a, b, c].getD (n % 3).toNat 0)) σ := oIx_lst (atI_I (is := [a, b, c]) (by omega) (by simp; omega))
@[simp] theorem ixI4 (n a b c d : Int) : oIx (.lst [.int a, .int b, .int c, .int d]) (.int (n % 4)) σ = .ok (.int ([a, b, c, d].getD (n % 4).toNat 0)) σ := oIx_lst (atI_I (is := [a, b, c, d]) (by omega) (by simp; omega))
@[simp] theorem ixI5 (n a b c d e : Int) : oIx (.lst [.int a, .int b, .int c, .int d, .int e]) (.int (n % 5)) σ = .ok (.int ([a, b, c, d, e].getD (n % 5).toNat 0)) σ := oIx_lst (atI_I (is := [a, b, c, d, e]) (by omega) (by simp; omega))
@[simp] theorem ixI6 (n a b c d e f : Int) : oIx (.lst [.int a, .int b, .int c, .int d, .int e, .int f]) (.int (n % 6)) σ = .ok (.int ([a, b, c, d, e, f].getD (n % 6).toNat 0)) σ := oIx_lst (atI_I (is := [a, b, c, d, e, f]) (by omega) (by simp; omega))
@[simp] theorem ixI7 (n a b c d e f g : Int) : oIx (.lst [.int a, .int b, .int c, .int d, .int e, .int f, .int g]) (.int (n % 7)) σ = .ok (.int ([a, b, c, d, e, f, g].getD (n % 7).toNat 0)) σ := oIx_lst (atI_I (is := [a, b, c, d, e, f, g]) (by omega) (by simp; omega))
@[simp] theorem ixI8 (n a b c d e f g h : Int) : oIx (.lst [.int a, .int b, .int c, .int d, .int e, .int f, .int g, .int h]) (.int (n % 8)) σ = .ok (.int ([a, b, c, d, e, f, g, h].getD (n % 8).toNat 0)) σ := oIx_lst (atI_I (is := [a, b, c, d, e, f, g, h]) (by omega) (by simp; omega))
theorem getD_all {γ : Type} {P : γ → Prop} {l : List γ} {d : γ} {n : Nat} (h : ∀ x ∈ l, P x) (h0 : P d) : P (l.getD n d) := by
  rw [List.getD_eq_getElem?_getD]
  cases e : l[n]? with
  | none => exact h0
  | some x => exact h x (List.mem_of_getElem? e)
@[simp] theorem lvK_1 (a : D) : lvK [a] σ = .ok (.lst [a]) σ := nr rfl
@[simp] theorem lvK_0 : lvK [] σ = .ok (.lst []) σ := nr rfl
@[simp] theorem lvK_2 (a b : D) : lvK [a, b] σ = .ok (.lst [a, b]) σ := nr rfl
@[simp] theorem lvK_3 (a b c : D) : lvK [a, b, c] σ = .ok (.lst [a, b, c]) σ := nr rfl
@[simp] theorem lvK_4 (a b c d : D) : lvK [a, b, c, d] σ = .ok (.lst [a, b, c, d]) σ := nr rfl
@[simp] theorem lvK_5 (a b c d e : D) : lvK [a, b, c, d, e] σ = .ok (.lst [a, b, c, d, e]) σ := nr rfl
@[simp] theorem lvK_6 (a b c d e f : D) : lvK [a, b, c, d, e, f] σ = .ok (.lst [a, b, c, d, e, f]) σ := nr rfl
@[simp] theorem lvK_7 (a b c d e f g : D) : lvK [a, b, c, d, e, f, g] σ = .ok (.lst [a, b, c, d, e, f, g]) σ := nr rfl
@[simp] theorem lvK_8 (a b c d e f g h : D) : lvK [a, b, c, d, e, f, g, h] σ = .ok (.lst [a, b, c, d, e, f, g, h]) σ := nr rfl
@[simp] theorem lvK_9 (a b c d e f g h i : D) : lvK [a, b, c, d, e, f, g, h, i] σ = .ok (.lst [a, b, c, d, e, f, g, h, i]) σ := nr rfl
@[simp] theorem lstK_2 (a b : D) : lstK [a, b] σ = .ok (.ref σ.length) (σ ++ [.lst [a, b]]) := nr rfl
/-! a list of the store, the last -/
@[simp] theorem lstAt_end (xs : List D) : lstAt (σ ++ [.lst xs]) σ.length = some xs := by simp [lstAt]
@[simp] theorem set_end (a b : Ob) : (σ ++ [a]).set σ.length b = σ ++ [b] := by
  rw [List.set_append_right _ _ (Nat.le_refl _)]; simp
@[simp] theorem eMeth_ap (o : D → List D → M D) (f : Ev → M D) (fs : Ev → M (List D)) : eMeth o f fs ρ σ = (f ρ σ).bind (methK o (fs ρ)) := nr rfl
theorem methK_ap {o : D → List D → M D} {m : M (List D)} {x : D} {xs : List D} (h : lsOf σ x = some xs) : methK o m x σ = (m σ).bind (o x) := by unfold methK; rw [h]; rfl
@[simp] theorem methK_end (o : D → List D → M D) (m : M (List D)) (xs : List D) : methK o m (.ref σ.length) (σ ++ [.lst xs]) = (m (σ ++ [.lst xs])).bind (o (.ref σ.length)) := methK_ap (xs := xs) (by simp [lsOf])
@[simp] theorem methK_lst (o : D → List D → M D) (m : M (List D)) (xs : List D) : methK o m (.lst xs) σ = (m σ).bind (o (.lst xs)) := methK_ap rfl
theorem append_end {xs : List D} {d : D} (h : xs.length < 1000) : oAppend (.ref σ.length) [d] (σ ++ [.lst xs]) = .ok .non (σ ++ [.lst (xs ++ [d])]) := by
  unfold oAppend; simp only [lstAt_end]; rw [if_pos (show xs.length < cap from h), set_end]
theorem oIn_ints {neg : Bool} {w : Int} {x : D} {ws : List Int} (h : seqOf σ x = some (ws.map D.int)) : oIn neg (.int w) x σ = .ok (.bl (if neg then !(ws.any (· == w)) else ws.any (· == w))) σ := by
  have h1 : ∀ l : List Int, (l.map D.int).all isF = true := fun l => by simp [isF, sc]
  have h2 : ∀ l : List Int, ((l.map D.int).any fun z => eqF z (.int w)) = l.any (· == w) := fun l => by simp [eqF, sc, eqV, List.any_map, Function.comp_def]
  unfold oIn; rw [h]; simp only [h1, h2, show isF (.int w) = true from rfl, Bool.and_self, if_true]
@[simp] theorem seqOf_end (xs : List D) : seqOf (σ ++ [.lst xs]) (.ref σ.length) = some xs := lstAt_end xs
@[simp] theorem seqOf_lst (xs : List D) : seqOf σ (.lst xs) = some xs := nr rfl
@[simp] theorem seqOf_tup (xs : List D) : seqOf σ (.tup xs) = some xs := nr rfl
/-! sources and loops -/
@[simp] theorem srcS_ap (f : Ev → M D) : srcS f ρ σ = (f ρ σ).bind seqK2 := nr rfl
@[simp] theorem seqK2_tup (ds : List D) : seqK2 (.tup ds) σ = .ok (.seq ds) σ := nr rfl
@[simp] theorem seqK2_lst (ds : List D) : seqK2 (.lst ds) σ = .ok (.seq ds) σ := nr rfl
@[simp] theorem srcR_ap (f : Ev → M D) : srcR f ρ σ = (f ρ σ).bind rngK := nr rfl
theorem rngK_ap {j : Int} (h : -(2 ^ 62) ≤ j) (h2 : j < 2 ^ 62) : rngK (.int j) σ = .ok (.seq (rangeD j.toNat)) σ := by
  unfold rngK; dsimp only; rw [if_pos (by simp only [small62, hide_eq, Bool.and_eq_true, decide_eq_true_eq]; exact ⟨h, h2⟩)]
@[simp] theorem sFor_ap (src : Ev → M Src) (tg : D → Ev → Option Ev) (body : Ev → M Fl) : sFor src tg body ρ σ = xsO ρ (forK tg body ρ) (src ρ σ) := xs_ap ..
@[simp] theorem forK_seq (tg : D → Ev → Option Ev) (body : Ev → M Fl) (ds : List D) : forK tg body ρ (.seq ds) σ = loop tg body ds ρ σ := nr rfl
@[simp] theorem loop_nil (tg : D → Ev → Option Ev) (body : Ev → M Fl) : loop tg body [] ρ σ = .ok (.nx ρ) σ := nr rfl
theorem loop_cons {tg : D → Ev → Option Ev} {body : Ev → M Fl} {d : D} {ds : List D} {ρ1 : Ev} (h : tg d ρ = some ρ1) : loop tg body (d :: ds) ρ σ = (body ρ1 σ).bind (loopK (loop tg body ds)) := by
  show (match tg d ρ with | none => bad | some ρ1 => bnd (body ρ1) (loopK (loop tg body ds))) σ = _
  rw [h]; rfl
@[simp] theorem loop_tgN (i : Nat) (body : Ev → M Fl) (d : D) (ds : List D) : loop (tgN i) body (d :: ds) ρ σ = (body (ρ.set i (some d)) σ).bind (loopK (loop (tgN i) body ds)) := loop_cons rfl
@[simp] theorem loopK_nx (k : Ev → M Fl) : loopK k (.nx ρ) σ = k ρ σ := nr rfl
@[simp] theorem loopK_ct (k : Ev → M Fl) : loopK k (.ct ρ) σ = k ρ σ := nr rfl
@[simp] theorem loopK_rt (k : Ev → M Fl) (d : D) : loopK k (.rt d) σ = .ok (.rt d) σ := nr rfl
@[simp] theorem loopK_xc (k : Ev → M Fl) (x : Xn) : loopK k (.xc ρ x) σ = .ok (.xc ρ x) σ := nr rfl
@[simp] theorem loopK_bk (k : Ev → M Fl) : loopK k (.bk ρ) σ = .ok (.nx ρ) σ := nr rfl
theorem rangeD_eq (n : Nat) : rangeD n = (List.range' 0 n).map fun (k : Nat) => D.int k := by unfold rangeD; rw [List.range_eq_range']
/-! a comprehension whose parts change nothing -/
theorem nox_ok {m : M α} {a : α} {σ' : Sto} (h : m σ = .ok a σ') : nox m σ = .ok a σ' := by unfold nox; rw [h]
theorem lc_go {fi : Ev → M Bool} {fe : Ev → M D} {ds : List D} {rest : Ev} {σ0 : Sto} (y : D → D) (p : D → Bool)
    (step : ∀ d ∈ ds, ∀ j, fi (some d :: rest) (σ0 ++ j) = .ok (p d) (σ0 ++ j) ∧ (p d = true → fe (some d :: rest) (σ0 ++ j) = .ok (y d) (σ0 ++ j))) (hl : ds.length ≤ 1000) :
    ∀ (k i : Nat) (o : Option D) (ys : List D), ds.length < k + i → i ≤ ds.length → ys.length ≤ i →
      lcLoop (.seq ds) σ0.length (tgN 0) fi fe k i (o :: rest) (σ0 ++ [.lst ys]) = .ok () (σ0 ++ [.lst (ys ++ ((ds.drop i).filter p).map y)]) := by
  intro k
  induction k with
  | zero => intro i o ys h1 h2; omega
  | succ k ih =>
    intro i o ys h1 h2 hy
    unfold lcLoop
    show (match some ds[i]? with | none => _ | some none => _ | some (some d) => _) = _
    cases e : ds[i]? with
    | none =>
      have hi : ds.length ≤ i := List.getElem?_eq_none_iff.mp e
      rw [List.drop_eq_nil_of_le hi]; simp
    | some d =>
      obtain ⟨hi, ed⟩ := List.getElem?_eq_some_iff.mp e
      have hd : ds.drop i = d :: ds.drop (i + 1) := by rw [← ed]; exact List.drop_eq_getElem_cons hi
      obtain ⟨s1, s2⟩ := step d (by rw [← ed]; exact List.getElem_mem hi) [.lst ys]
      show bnd (nox (fi (some d :: rest))) _ _ = _
      rw [bnd_ap, nox_ok s1, bind_ok]
      dsimp only [List.set]
      by_cases hp : p d = true
      · rw [hp, if_pos rfl, bnd_ap, nox_ok (s2 hp), bind_ok, bnd_ap, append_end (by omega), bind_ok, ih (i + 1) (some d) (ys ++ [y d]) (by omega) (by omega) (by simp; omega), hd, List.filter_cons, if_pos hp]
        simp
      · rw [if_neg hp, ih (i + 1) (some d) ys (by omega) (by omega) (by omega), hd, List.filter_cons, if_neg hp]
theorem lc_ok {src : Ev → M Src} {ix : List Nat} {fi : Ev → M Bool} {fe : Ev → M D} {ds : List D} (y : D → D) (p : D → Bool) (hs : src ρ σ = .ok (.seq ds) σ) (hl : ds.length ≤ 1000)
    (step : ∀ d ∈ ds, ∀ j, fi (some d :: (ix.map fun i => (ρ[i]?).getD none)) (σ ++ j) = .ok (p d) (σ ++ j) ∧ (p d = true → fe (some d :: (ix.map fun i => (ρ[i]?).getD none)) (σ ++ j) = .ok (y d) (σ ++ j))) (hc : ∀ d ∈ ds, p d = true → cl (y d) = true) :
    eFrz (eLC src ix (tgN 0) fi fe) ρ σ = .ok (.lst ((ds.filter p).map y)) σ := by
  show frzO σ (eLC src ix (tgN 0) fi fe ρ σ) = _
  have e : eLC src ix (tgN 0) fi fe ρ σ = .ok (.ref σ.length) (σ ++ [.lst ((ds.filter p).map y)]) := by
    show bnd (src ρ) (lcK (tgN 0) fi fe (blkEv ix ρ)) σ = _
    rw [bnd_ap, hs, bind_ok]
    show bnd (lcLoop (.seq ds) σ.length (tgN 0) fi fe 1001 0 (none :: (ix.map fun i => (ρ[i]?).getD none))) _ (σ ++ [.lst []]) = _
    rw [bnd_ap, lc_go y p step hl 1001 0 none [] (by omega) (by omega) (by simp), bind_ok]
    simp
  rw [e]
  have := frzO_lst (σ := σ) (j := []) (j' := []) (xs := (ds.filter p).map y) (clL_all fun d hd => by obtain ⟨x, hx, rfl⟩ := List.mem_map.mp hd; obtain ⟨hx1, hx2⟩ := List.mem_filter.mp hx; exact hc x hx1 hx2)
  simpa using this
/-- no filter -/
theorem lc_map {src : Ev → M Src} {ix : List Nat} {fe : Ev → M D} {ds : List D} (y : D → D) (hs : src ρ σ = .ok (.seq ds) σ) (hl : ds.length ≤ 1000)
    (step : ∀ d ∈ ds, ∀ j, fe (some d :: (ix.map fun i => (ρ[i]?).getD none)) (σ ++ j) = .ok (y d) (σ ++ j)) (hc : ∀ d ∈ ds, cl (y d) = true) :
    eFrz (eLC src ix (tgN 0) bTrue fe) ρ σ = .ok (.lst (ds.map y)) σ := by
  have := lc_ok (p := fun _ => true) y (ix := ix) (fi := bTrue) hs hl (fun d hd j => ⟨rfl, fun _ => step d hd j⟩) (fun d hd _ => hc d hd)
  rw [show List.filter (fun _ => true) ds = ds from List.filter_eq_self.mpr fun _ _ => rfl] at this
  exact this
end
end L4

/-! More reckoning. -/
namespace L4
open PySem L2
section
variable {α β : Type} {ρ : Ev} {σ : Sto}
@[simp] theorem seqOf_scr (ns : List Int) : seqOf σ (.scr ns) = some (ns.map D.int) := nr rfl
theorem oIx_scr {ns : List Int} {k : Int} (h0 : 0 ≤ k) (h : k < ns.length) : oIx (.scr ns) (.int k) σ = .ok (.int (ns.getD k.toNat 0)) σ := by
  simp only [oIx, seqOf_scr, atI_I h0 h]
@[simp] theorem oIsB_int (c : BT) (i : Int) : oIsB c (.int i) σ = .ok (.bl (match c with | .int => true | _ => false)) σ := nr rfl
@[simp] theorem oIsB_bl (c : BT) (i : Bool) : oIsB c (.bl i) σ = .ok (.bl (match c with | .int => true | .bool => true | _ => false)) σ := nr rfl
@[simp] theorem oIsB_tup (xs : List D) : oIsB .tuple (.tup xs) σ = .ok (.bl true) σ := nr rfl
@[simp] theorem eChain_ap (o o' : D → D → M D) (a b c : Ev → M D) : eChain o o' a b c ρ σ = (a ρ σ).bind (chain1 o o' (b ρ) (c ρ)) := nr rfl
/-- equality of a thing with itself -/
def pl : Nat → D → Bool
  | _, .non => true
  | _, .bl _ => true
  | _, .int _ => true
  | _, .str _ => true
  | n + 1, .tup xs => xs.all (pl n)
  | n + 1, .lst xs => xs.all (pl n)
  | _, _ => false
theorem eqL_refl {f : D → D → Option Bool} : ∀ {xs : List D}, (∀ x ∈ xs, f x x = some true) → eqL f xs xs = some true
  | [], _ => rfl
  | x :: xs, h => by unfold eqL; rw [h x List.mem_cons_self, eqL_refl fun y hy => h y (List.mem_cons_of_mem _ hy)]; rfl
theorem eqD_refl : ∀ (n : Nat) (x : D), pl n x = true → eqD σ n x x = some true
  | 0, x, h => by cases x <;> simp [pl] at h <;> simp [eqD, kd, eqK, eqV]
  | n + 1, x, h => by
    cases x with
    | non => simp [eqD, kd, eqK, eqV]
    | bl b => simp [eqD, kd, eqK, eqV]
    | int b => simp [eqD, kd, eqK, eqV]
    | str b => simp [eqD, kd, eqK, eqV]
    | tup xs =>
      simp only [pl, List.all_eq_true] at h
      unfold eqD; simp only [kd, eqK]
      exact eqL_refl fun y hy => eqD_refl n y (h y hy)
    | lst xs =>
      simp only [pl, List.all_eq_true] at h
      unfold eqD; simp only [kd, eqK]
      exact eqL_refl fun y hy => eqD_refl n y (h y hy)
    | _ => simp [pl] at h
theorem oNe_self {x : D} (h : pl 8 x = true) : oNe x x σ = .ok (.bl false) σ := oNe_of (eqD_refl 8 x h)
/-! a list in the store, set at a place -/
@[simp] theorem sSetL_ap (f fo fi : Ev → M D) : sSetL f fo fi ρ σ = xsO ρ (setL1 ρ fo fi) (f ρ σ) := xs_ap ..
@[simp] theorem chain1_ap (o o' : D → D → M D) (b c : M D) (x : D) : chain1 o o' b c x σ = (b σ).bind (chainB o o' c x) := nr rfl
@[simp] theorem chainB_ap (o o' : D → D → M D) (c : M D) (x y : D) : chainB o o' c x y σ = (o x y σ).bind (chain2 o' c y) := nr rfl
@[simp] theorem chain2_ap (o' : D → D → M D) (c : M D) (y : D) (b : Bool) : chain2 o' c y (.bl b) σ = ifK (bnd c (o' y)) (ret (.bl false)) b σ := nr rfl
@[simp] theorem setL1_ap (fo fi : Ev → M D) (d : D) : setL1 ρ fo fi d σ = xsO ρ (setL2 ρ fi d) (fo ρ σ) := xs_ap ..
@[simp] theorem setL2_ap (fi : Ev → M D) (d x : D) : setL2 ρ fi d x σ = xsO ρ (setL3 ρ d x) (fi ρ σ) := xs_ap ..
@[simp] theorem setL3_0 (d a : D) (r : List D) : setL3 ρ d (.ref σ.length) (.int 0) (σ ++ [.lst (a :: r)]) = .ok (.nx ρ) (σ ++ [.lst (d :: r)]) := by
  have : oSetL (.ref σ.length) (.int 0) d (σ ++ [.lst (a :: r)]) = .ok () (σ ++ [.lst (d :: r)]) := by
    simp only [oSetL, lstAt_end]
    rw [show ixN (a :: r).length 0 = some 0 by simp [ixN]]
    simp
  unfold setL3; rw [this]
@[simp] theorem setL3_1 (d a b : D) (r : List D) : setL3 ρ d (.ref σ.length) (.int 1) (σ ++ [.lst (a :: b :: r)]) = .ok (.nx ρ) (σ ++ [.lst (a :: d :: r)]) := by
  have : oSetL (.ref σ.length) (.int 1) d (σ ++ [.lst (a :: b :: r)]) = .ok () (σ ++ [.lst (a :: d :: r)]) := by
    simp only [oSetL, lstAt_end]
    rw [show ixN (a :: b :: r).length 1 = some 1 by simp [ixN]; omega]
    simp
  unfold setL3; rw [this]
theorem oIx_end {xs : List D} {k : Int} {d : D} (h : atI xs k = some d) : oIx (.ref σ.length) (.int k) (σ ++ [.lst xs]) = .ok d (σ ++ [.lst xs]) := by simp [oIx, seqOf_end, h]
@[simp] theorem ix_e0 (a : D) (r : List D) : oIx (.ref σ.length) (.int 0) (σ ++ [.lst (a :: r)]) = .ok a (σ ++ [.lst (a :: r)]) := oIx_end (show atI _ ((0 : Nat) : Int) = _ from atI_nat rfl)
@[simp] theorem ix_e1 (a b : D) (r : List D) : oIx (.ref σ.length) (.int 1) (σ ++ [.lst (a :: b :: r)]) = .ok b (σ ++ [.lst (a :: b :: r)]) := oIx_end (show atI _ ((1 : Nat) : Int) = _ from atI_nat rfl)
theorem frzO_end {a : Ob} {d : D} (h : cl d = true) : frzO σ (.ok d (σ ++ [a])) = .ok d σ := frzO_cl h (by simp)
@[simp] theorem blsOf_map {γ : Type} (f : γ → Bool) (l : List γ) : blsOf (l.map fun x => D.bl (f x)) = some (l.map f) := by
  induction l with
  | nil => rfl
  | cons x l ih => simp [blsOf, ih]
@[simp] theorem intsOf_map (l : List Int) : intsOf (l.map D.int) = some l := by
  induction l with
  | nil => rfl
  | cons x l ih => simp [intsOf, ih]
theorem oAll_map {γ : Type} {f : γ → Bool} {l : List γ} : oAll [.lst (l.map fun x => D.bl (f x))] σ = .ok (.bl (l.all f)) σ := by
  simp only [oAll, seqOf_lst, Option.bind_some, blsOf_map]
  simp [List.all_map, Function.comp_def]
theorem oLenSet_ints {l : List Int} (h : l.length ≤ 1000) : oLenSet (.lst (l.map D.int)) σ = .ok (.int (ddp l).length) σ := by
  simp only [oLenSet, lsOf, Option.bind_some, intsOf_map]
  rw [if_pos (show l.length ≤ cap from h)]
theorem ddp_go : ∀ (l s : List Int), (l.foldl PyProof.Rows.step_dedup s).length ≤ s.length + l.length ∧ ((l.foldl PyProof.Rows.step_dedup s).length = s.length + l.length ↔ (l.Nodup ∧ ∀ x ∈ l, x ∉ s))
  | [], s => by simp
  | x :: l, s => by
    rw [List.foldl_cons]
    by_cases h : s.any (· == x) = true
    · have hx : x ∈ s := by simpa using h
      rw [show PyProof.Rows.step_dedup s x = s by unfold PyProof.Rows.step_dedup; rw [if_pos h]]
      obtain ⟨h1, h2⟩ := ddp_go l s
      refine ⟨by simp only [List.length_cons]; omega, fun e => ?_, fun e => absurd hx (e.2 x List.mem_cons_self)⟩
      simp only [List.length_cons] at e; omega
    · have hx : x ∉ s := by simpa using h
      rw [show PyProof.Rows.step_dedup s x = s ++ [x] by unfold PyProof.Rows.step_dedup; rw [if_neg h]]
      obtain ⟨h1, h2⟩ := ddp_go l (s ++ [x])
      simp only [List.length_append, List.length_cons, List.length_nil] at h1 h2
      refine ⟨by simp only [List.length_cons]; omega, ?_⟩
      rw [List.length_cons, show s.length + (l.length + 1) = s.length + (0 + 1) + l.length by omega, h2, List.nodup_cons]
      constructor
      · rintro ⟨a, b⟩
        refine ⟨⟨fun hm => (b x hm) (by simp), a⟩, fun y hy => ?_⟩
        rcases List.mem_cons.mp hy with rfl | hy
        · exact hx
        · exact fun hs => b y hy (by simp [hs])
      · rintro ⟨⟨a, b⟩, c⟩
        refine ⟨b, fun y hy hs => ?_⟩
        rcases List.mem_append.mp hs with hs | hs
        · exact c y (List.mem_cons_of_mem _ hy) hs
        · rw [List.mem_singleton.mp hs] at hy; exact a hy
theorem ddp_len (l : List Int) : ((ddp l).length : Int) = (l.length : Int) ↔ l.Nodup := by
  have := (ddp_go l []).2
  simp only [List.length_nil, Nat.zero_add, List.not_mem_nil, not_false_eq_true, implies_true, and_true] at this
  unfold ddp; rw [← this]; omega
end
end L4

/-! Reckoning with instances. -/
namespace L4
open PySem L2
section
variable {ρ : Ev} {σ : Sto}
@[simp] theorem eMake_ap (c n : Nat) (fn : List D → M D) (fs : Ev → M (List D)) : eMake c n fn fs ρ σ = (fs ρ σ).bind (makeK c n fn) := nr rfl
theorem makeK_ap {c n : Nat} {fn : List D → M D} {ds : List D} (h : ds.length + 1 = n) : makeK c n fn ds σ = noneO σ.length (fn (.ref σ.length :: ds) (σ ++ [.ins c []])) := by unfold makeK; rw [if_pos h]
@[simp] theorem makeK_1 (c : Nat) (fn : List D → M D) (a : D) : makeK c 2 fn [a] σ = noneO σ.length (fn [.ref σ.length, a] (σ ++ [.ins c []])) := makeK_ap rfl
@[simp] theorem makeK_2 (c : Nat) (fn : List D → M D) (a b : D) : makeK c 3 fn [a, b] σ = noneO σ.length (fn [.ref σ.length, a, b] (σ ++ [.ins c []])) := makeK_ap rfl
@[simp] theorem makeK_3 (c : Nat) (fn : List D → M D) (a b d : D) : makeK c 4 fn [a, b, d] σ = noneO σ.length (fn [.ref σ.length, a, b, d] (σ ++ [.ins c []])) := makeK_ap rfl
@[simp] theorem makeK_5 (c : Nat) (fn : List D → M D) (a b d e f : D) : makeK c 6 fn [a, b, d, e, f] σ = noneO σ.length (fn [.ref σ.length, a, b, d, e, f] (σ ++ [.ins c []])) := makeK_ap rfl
@[simp] theorem noneO_ok (n : Nat) : noneO n (.ok .non σ) = .ok (.ref n) σ := nr rfl
@[simp] theorem sPut_ap (cs : List Nat) (f : Str) (fv fo : Ev → M D) : sPut cs f fv fo ρ σ = xsO ρ (putK1 ρ cs f fo) (fv ρ σ) := xs_ap ..
@[simp] theorem putK1_ap (cs : List Nat) (f : Str) (fo : Ev → M D) (d : D) : putK1 ρ cs f fo d σ = xsO ρ (putK2 ρ cs f d) (fo ρ σ) := xs_ap ..
@[simp] theorem eMth_ap (tb : Mt) (n : Nat) (m : Str) (f : Ev → M D) (fs : Ev → M (List D)) : eMth tb n m f fs ρ σ = (f ρ σ).bind (mthK tb n m (fs ρ)) := nr rfl
theorem mthK2_ap {n : Nat} {fn : List D → M D} {x : D} {ds : List D} (h : ds.length + 1 = n) : mthK2 n fn x ds σ = fn (x :: ds) σ := by unfold mthK2; rw [if_pos h]
@[simp] theorem mthK2_0 (fn : List D → M D) (x : D) : mthK2 1 fn x [] σ = fn [x] σ := mthK2_ap rfl
@[simp] theorem mthK2_1 (fn : List D → M D) (x a : D) : mthK2 2 fn x [a] σ = fn [x, a] σ := mthK2_ap rfl
@[simp] theorem mthK2_2 (fn : List D → M D) (x a b : D) : mthK2 3 fn x [a, b] σ = fn [x, a, b] σ := mthK2_ap rfl
@[simp] theorem mthK2_4 (fn : List D → M D) (x a b c d : D) : mthK2 5 fn x [a, b, c, d] σ = fn [x, a, b, c, d] σ := mthK2_ap rfl
@[simp] theorem cl_obj (c : Nat) (ns : List Str) (ds : List D) : cl (.obj c ns ds) = clL ds := by simp [cl]
@[simp] theorem oMin2_ap (i j : Int) : oMin2 [.int i, .int j] σ = .ok (.int (min i j)) σ := nr rfl
@[simp] theorem oMax2_ap (i j : Int) : oMax2 [.int i, .int j] σ = .ok (.int (max i j)) σ := nr rfl
@[simp] theorem oIsT_bl (n b k : Bool) : oIsT n (.bl b) (.bl k) σ = .ok (.bl (if n then !(b == k) else b == k)) σ := nr rfl
@[simp] theorem oIsB_str (i : Str) : oIsB .str (.str i) σ = .ok (.bl true) σ := nr rfl
@[simp] theorem oIsB_non (c : BT) : oIsB c .non σ = .ok (.bl false) σ := by cases c <;> rfl
end
end L4

/-! isinstance of a caught exception. -/
namespace L4
open PySem PySem.Spec PySem.Calls PyProof.Rows PySem.Builtin PySem.Builtin.ObjectAttr PySem.Builtin.Getset_descriptor L2
/-- what is known of a class of exceptions -/
structure ExK (K : PySem.W.Frag) (C : Addr) : Prop where
  g : PySem.W.findIn K (.ref C) "__getattribute__" = some (some (.builtin "BaseException.__getattribute__"))
  g2 : PySem.W.findIn K (.ref C) "__getattr__" = some none
  mb : PySem.W.mroIn K C (.type "BaseException") = some true
  d : PySem.W.hasDictIn K C = true
  a : PySem.W.findIn K (.ref C) "__class__" = some (some (.builtin "object.__class__"))
  n : PySem.W.specialIn K (.builtin "object.__class__") "__get__" = some (some (.builtin "getset_descriptor.__get__"))
  t : PySem.W.takesIn K (.builtin "object.__class__") = some true
  m : PySem.W.mroIn K C (.type "object") = some true
section
variable {prog : Program} {w : World} {A : Around} {E : Value → Shared → Prop} {s : Shared} {K : PySem.W.Frag} {C ea : Addr} {hp : Heap} {Mo : Model}
theorem exc_ty (p : ExcAt C ea hp) : PySem.W.Looks Mo hp (typeOf (.ref ea)) (.ref C) := by
  obtain ⟨o, h1, h2⟩ := p
  rw [← h2]; exact (PySem.W.Looks.ld h1).andThen .now
theorem exc_find (Z : ExK K C) (X : K.In hp) : PySem.W.Looks Mo hp (find (.ref ea) (.ref C) "__class__") (.bind (.builtin "getset_descriptor.__get__") (.builtin "object.__class__")) := by
  have l3 : PySem.W.Looks Mo hp (dataDescriptor? (some (.builtin "object.__class__")) (some (.builtin "getset_descriptor.__get__"))) (some (.builtin "getset_descriptor.__get__", .builtin "object.__class__")) := (PySem.W.looks_takesIn X Z.t).andThen .now
  exact (PySem.W.looks_findIn X Z.a).andThen ((PySem.W.looks_specialIn X Z.n).andThen (l3.andThen (PySem.W.Looks.tag .now)))
theorem exc_get {tp : Value} {R : Result → Shared → Prop} (Z : ExK K C) (X : K.In s.heap) (p : ExcAt C ea s.heap) (h : R (.ok (.ret (.ref C))) s) : codeAny (model prog w) A (.call (.builtin "getset_descriptor.__get__") ⟨[.builtin "object.__class__", .ref ea, tp], []⟩) R s := by
  obtain ⟨hh, gl, dr, tt, os⟩ := s
  have l0 := exc_ty (Mo := model prog w) p
  have l1 := PySem.W.looks_mroIn (M := model prog w) X Z.m
  refine codeAny_call_builtin PySem.W.KF.slot_gs.plain PySem.W.KF.entry_gs (PySem.W.KF.slot_gs.check _ _ _ _ _ _ _ _ PySem.W.KF.type_class (PySem.W.KF.args_gs _ _ _) ?_)
  unfold Builtin.«getset_descriptor.__get__» descrGet; rw [PySem.W.dga_obj]
  refine wpAny_bind (wpAny_pure ?_); unfold descrGetter descrCheckInstance descrNameAndClass isInstance; simp only [PySem.W.KF.owner_class]
  repeat lk
  refine ⟨Code.quiet_builtin _ (by decide +kernel), codeAny_builtin PySem.W.KF.entry_class ?_⟩; unfold Builtin.«object.__class__» shownTypeOf
  repeat lk
  exact h
theorem exc_class {Q : Option Value → Shared → Prop} (Z : ExK K C) (X : K.In s.heap) (p : ExcAt C ea s.heap) (h : Q (some (.ref C)) { s with toks := s.toks + 1 }) : wpAny (model prog w) A (getAttr? (.ref ea) "__class__") Q E s := by
  obtain ⟨hh, gl, dr, tt, os⟩ := s
  have l0 := exc_ty (Mo := model prog w) p
  have l1 := PySem.W.looks_findIn (M := model prog w) X Z.g
  have l2 := PySem.W.looks_findIn (M := model prog w) X Z.g2
  have l3 := exc_find (ea := ea) (Mo := model prog w) Z X
  have l4 := PySem.W.looks_mroIn (M := model prog w) X Z.mb
  have f3 := PySem.F.excAttr_ValueError.ga.bind (.ref ea)
  unfold getAttr? getAttrBy? getAttrBy; refine wpAny_bind (wpAny_mkText (wpAny_bind (wpAny_attempt (wpAny_holding (wpAny_bind (l0.at (wpAny_bind (l1.at ?_))))))))
  show wpAny _ _ (getAttrByItsOwn _ _ _ _ _ _) _ _ _
  unfold getAttrByItsOwn hookBefore callGetattribute
  repeat (any_goals (first | assumption | (with_reducible refine PySem.W.Looks.at (by assumption) ?_) | wp_step))
  refine codeAny_call_builtin PySem.F.excAttr_ValueError.ga.plain PySem.F.entry_bexc_ga ?_
  have hknd : builtinKind "BaseException.__getattribute__" = some .slot := by decide +kernel
  have hsp : splitId "BaseException.__getattribute__" = some ("BaseException", "__getattribute__") := by decide +kernel
  have ha := PySem.F.args_bexc_ga (.ref ea) (.str "__class__" tt)
  simp only [List.cons_append, List.nil_append, checkBuiltinCall, hknd, hsp]; refine wpAny_bind ?_; unfold isInstance
  repeat (any_goals (first | assumption | (with_reducible refine PySem.W.Looks.at (by assumption) ?_) | wp_step))
  refine exc_get Z X p ?_
  exact wpAny_pure (PySem.W.handed_on rfl (wpAny_pure h))
theorem kitx_exc (Z : ExK K C) : PySem.W.KitX K (.ref ea) (.ref C) (ExcAt C ea) where
  ty := fun _ _ _ p => exc_ty p
  it := fun _ _ X _ => by
    obtain ⟨cd, hcd, _⟩ := PySem.W.any_some Z.d
    unfold PySem.W.clsIn at hcd
    split at hcd
    · rename_i ho
      intro A' Q' E' s' k q
      unfold isType loadHead; exact wpAny_bind (wpAny_loadPart (k _ _ (X _ _ ho)) (wpAny_pure q))
    · cases hcd
  ne := fun h tp dd its n sl X htp => by
    obtain ⟨cd, hcd, _⟩ := PySem.W.any_some Z.d
    refine Bool.eq_false_iff.mpr fun q => ?_
    have e : C = tp := Value.ref.inj (beq_iff_eq.mp q)
    subst e
    unfold PySem.W.clsIn at hcd
    split at hcd
    · rename_i ho; have z := (X _ _ ho).symm.trans htp; cases z
    · cases hcd
  ca := fun X p k => exc_class Z X p k
end
def oIsX (t : Nat → Option Bool) (x : D) : M D := fun σ => match x with
  | .exn c => (match t c with | some b => .ok (.bl b) σ | none => .bad)
  | _ => .bad
section
variable {T : Tb} {X : Cx}
def rIsX (K : PySem.W.Frag) (vc : V) (cv : Value) : List V → Hp → VK → Prop := fun xs H Q => ∃ a C b, xs = [.ref a, vc] ∧ H a = some (.ext (ExcAt C a)) ∧ ExK K C ∧ PySem.W.kitOne K (.ref C) cv = some b ∧ Q (.bl b) H
theorem call_isX {vc : V} {cv : Value} (hv : ∀ u, RelV vc u → u = cv) : CallR X (.builtin "isinstance") (rIsX X.K vc cv) := by
  intro pins s st H xs us Q I r h
  obtain ⟨a, C, b, rfl, ea, Z, e, q⟩ := h
  obtain ⟨u, u2, rfl, ru, ru2⟩ := vals2 r
  cases hv _ ru2
  cases (show u = Value.ref a from ru)
  exact PySem.W.kia_one (kitx_exc Z) I.kIn (I.hok a _ ea).1 e (fun z => nomatch z) fun tk => ⟨.bl b, H, I.tok _, rfl, q⟩
/-- the name of a class, own or built in -/
inductive ClsV (X : Cx) (y : Str) : V → Value → Prop where
  | own {a : Addr} (h : X.mg y = some (.ref a)) : ClsV X y (.ref a) (.ref a)
  | bt {n : String} (h : X.mg y = none) (hv : bootBuiltins y = some (.type n)) (hn : y ≠ "__name__") : ClsV X y (.ty n) (.type n)
theorem ClsV.pe {y : Str} {vc : V} {cv : Value} {p2 : Pos} (h : ClsV X y vc cv) (hg2 : Gl X y) (hd2 : (y == ("__debug__" : Str)) = false) : PE X (.Name y p2) (tC vc) := by
  cases h with
  | own h => exact pe_glob hg2 h rfl hd2
  | bt h hv hn => exact pe_bltn hg2 h hv rfl hn hd2
theorem ClsV.rel {y : Str} {vc : V} {cv : Value} (h : ClsV X y vc cv) : ∀ u, RelV vc u → u = cv := by
  cases h with
  | own h => exact fun u q => q
  | bt h hv hn => exact fun u q => q
theorem fe_isX {y : Str} {vc : V} {cv : Value} {t : Nat → Option Bool} {e : Expr} {f : Ev → M D} {p p2 pos : Pos} (he : FE T X e f) (hg : Gl X "isinstance") (hm : X.mg "isinstance" = none) (hg2 : Gl X y) (hd2 : (y == ("__debug__" : Str)) = false) (hc : ClsV X y vc cv)
    (ht : ∀ c b, t c = some b → ExK X.K (T.ca c) ∧ PySem.W.kitOne X.K (.ref (T.ca c)) cv = some b)
    (hs : starEach [e, .Name y p2] X.env = (false, eval e X.env) :: starEach [.Name y p2] X.env := by rfl) (hpl : (backTo pos (starEach [.Name y p2] X.env)).any (·.1) = false := by rfl) :
    FE T X (.Call (.Name "isinstance" p) [e, .Name y p2] [] pos) (eUn (oIsX t) f) := by
  intro pins s st H Q I h
  refine pe_callB (call_isX hc.rel) hg hm boot_isinstance (pa_cons he (pa_cons (hc.pe hg2 hd2) pa_nil) hs) (by decide) (by decide) hs hpl pins s st H Q I ?_
  obtain ⟨μ, ρ, σ, hE, hr, hp⟩ := h
  refine ⟨μ, ρ, σ, hE, hr, hp.bind fun x σ1 μ1 v H1 _ e1 r1 p1 q1 => ?_⟩
  unfold oIsX at q1
  cases x with
  | exn c =>
    dsimp only at q1
    cases et : t c with
    | none => rw [et] at q1; exact q1.elim
    | some b =>
      rw [et] at q1
      rw [Rep] at p1
      obtain ⟨a, rfl, _, h2⟩ := p1
      obtain ⟨z1, z2⟩ := ht c b et
      exact ⟨a, T.ca c, b, rfl, h2, z1, z2, Post.here q1 r1 (by rw [Rep])⟩
  | _ => exact q1.elim
end
def IxOk (K : PySem.W.Frag) (ca : Nat → Addr) (cv : Value) (l : List (Nat × Bool)) : Prop := ∀ p ∈ l, ExK K (ca p.1) ∧ PySem.W.kitOne K (.ref (ca p.1)) cv = some p.2
theorem ix_nil {K : PySem.W.Frag} {ca : Nat → Addr} {cv : Value} : IxOk K ca cv [] := fun _ h => nomatch h
theorem ix_cons {K : PySem.W.Frag} {ca : Nat → Addr} {cv : Value} {c : Nat} {b : Bool} {l : List (Nat × Bool)} (z : ExK K (ca c)) (h : PySem.W.kitOne K (.ref (ca c)) cv = some b) (r : IxOk K ca cv l) : IxOk K ca cv ((c, b) :: l) := fun p hp => by
  rcases List.mem_cons.mp hp with rfl | hp
  · exact ⟨z, h⟩
  · exact r p hp
theorem ix_of {K : PySem.W.Frag} {ca : Nat → Addr} {cv : Value} {l : List (Nat × Bool)} (h : IxOk K ca cv l) : ∀ c b, htab l c = some b → ExK K (ca c) ∧ PySem.W.kitOne K (.ref (ca c)) cv = some b := fun c b e => h (c, b) (lk_mem e)
section
variable {ρ : Ev} {σ : Sto}
@[simp] theorem hit_as (t : Nat → Option Bool) (i : Nat) (g : Ev → M Fl) (x : Xn) : hit ⟨t, some i, g⟩ ρ x σ = (g (ρ.set i (some (.exn x.cls))) σ).bind (unbK i) := nr rfl
@[simp] theorem unbK_nx (i : Nat) : unbK i (.nx ρ) σ = .ok (.nx (ρ.set i none)) σ := nr rfl
@[simp] theorem unbK_rt (i : Nat) (d : D) : unbK i (.rt d) σ = .ok (.rt d) σ := nr rfl
theorem oIsX_ap {t : Nat → Option Bool} {c : Nat} {b : Bool} (h : t c = some b) : oIsX t (.exn c) σ = .ok (.bl b) σ := by unfold oIsX; dsimp only; rw [h]
end
end L4

/-! list(range(n)) -/
namespace L4
open PySem PySem.Spec PySem.Calls PyProof.Rows L2
section
variable {T : Tb} {X : Cx}
def oListR (x : D) : M D := fun σ => match x with
  | .int j => if (decide (0 ≤ j) && decide (j ≤ 1000)) = true then .ok (.lst (rangeD j.toNat)) σ else .bad
  | _ => .bad
@[simp] theorem oListR_ap (j : Int) (h0 : 0 ≤ j) (h1 : j ≤ 1000) (σ : Sto) : oListR (.int j) σ = .ok (.lst (rangeD j.toNat)) σ := by
  unfold oListR; dsimp only; rw [if_pos (by simp [h0, h1])]
end
end L4

/-! t * 2, t a tuple -/
namespace HT
open PySem Builtin
open Sem (wp)
end HT
namespace L4
open PySem PySem.Spec PyProof.Rows L2
end L4

/-! a list's item by a truth -/
namespace HT
open PySem Builtin
open Sem (wp)
end HT
namespace L4
open PySem PySem.Spec PyProof.Rows L2
section
variable {T : Tb} {X : Cx}
def oIxB (x y : D) : M D := fun σ => match y with
  | .bl b => (match lsOf σ x with
    | some xs => (match xs[if b then 1 else 0]? with
      | some d => .ok d σ
      | none => .bad)
    | none => .bad)
  | _ => .bad
@[simp] theorem oIxB_t (a b : D) (r : List D) (σ : Sto) : oIxB (.lst (a :: b :: r)) (.bl true) σ = .ok b σ := nr rfl
@[simp] theorem oIxB_f (a : D) (r : List D) (σ : Sto) : oIxB (.lst (a :: r)) (.bl false) σ = .ok a σ := nr rfl
end
end L4

namespace L2
open PySem PySem.Spec PyProof.Rows

/-! ### lists of pairs as tables -/
section
variable {κ : Type} [DecidableEq κ]
def valV (kvs : List (κ × V)) (k : κ) : Option V := (kvs.find? fun kv => decide (kv.1 = k)).map (·.2)
/-- in its place, or at the end -/
def putK (kvs : List (κ × V)) (k : κ) (v : V) : List (κ × V) :=
  if (kvs.any fun kv => decide (kv.1 = k)) = true then kvs.map (fun kv => if kv.1 = k then (kv.1, v) else kv) else kvs ++ [(k, v)]
def dropK (kvs : List (κ × V)) (k : κ) : List (κ × V) := kvs.filter fun kv => decide (kv.1 ≠ k)

theorem valV_pos {p : κ × V} {r : List (κ × V)} {k : κ} (e : p.1 = k) : valV (p :: r) k = some p.2 := by simp [valV, List.find?_cons, e]
theorem valV_neg {p : κ × V} {r : List (κ × V)} {k : κ} (e : ¬ p.1 = k) : valV (p :: r) k = valV r k := by simp [valV, List.find?_cons, e]

theorem RelO.getD {o : Option V} {u : Option Value} {d : V} {d' : Value} (r : RelO o u) (rd : RelV d d') : RelV (o.getD d) (u.getD d') := by
  cases o with
  | none => cases u with
    | none => exact rd
    | some _ => exact (show False from r).elim
  | some _ => cases u with
    | none => exact (show False from r).elim
    | some _ => exact r

/-- raw tables of the same keys -/
theorem KV.val {kvs : List (κ × V)} {vs : List (κ × Value)} (r : KV kvs vs) (k : κ) : RelO (valV kvs k) (valueAt vs k) := by
  unfold KV at r
  induction r with
  | nil => exact True.intro
  | @cons p q ps qs h t ih =>
    obtain ⟨h1, h2⟩ := h
    by_cases e : p.1 = k
    · have e' : q.1 = k := h1.symm.trans e
      have b : valueAt (q :: qs) k = some q.2 := by simp [valueAt, List.find?_cons, e']
      rw [valV_pos e, b]; exact h2
    · have e' : ¬ q.1 = k := fun z => e (h1.trans z)
      have b : valueAt (q :: qs) k = valueAt qs k := by simp [valueAt, List.find?_cons, e']
      rw [valV_neg e, b]; exact ih
theorem KV.any {kvs : List (κ × V)} {vs : List (κ × Value)} (r : KV kvs vs) (k : κ) : (kvs.any fun kv => decide (kv.1 = k)) = vs.any fun kv => decide (kv.1 = k) := by
  unfold KV at r
  induction r with
  | nil => rfl
  | cons h t ih => rw [List.any_cons, List.any_cons, ih, h.1]
theorem KV.drop {kvs : List (κ × V)} {vs : List (κ × Value)} (r : KV kvs vs) (k : κ) : KV (dropK kvs k) (without vs k) := by
  unfold KV at r ⊢
  unfold dropK without
  induction r with
  | nil => exact .nil
  | @cons p q ps qs h t ih =>
    obtain ⟨h1, h2⟩ := h
    rw [List.filter_cons, List.filter_cons]
    by_cases e : p.1 = k
    · have a : ¬ decide (p.1 ≠ k) = true := by simp [e]
      have b : ¬ decide (q.1 ≠ k) = true := by simp [h1.symm.trans e]
      rw [if_neg a, if_neg b]; exact ih
    · have e' : ¬ q.1 = k := fun z => e (h1.trans z)
      have a : decide (p.1 ≠ k) = true := by simp [e]
      have b : decide (q.1 ≠ k) = true := by simp [e']
      rw [if_pos a, if_pos b]; exact .cons ⟨h1, h2⟩ ih
theorem KV.keys {kvs : List (κ × V)} {vs : List (κ × Value)} (r : KV kvs vs) : kvs.map (·.1) = vs.map (·.1) := by
  unfold KV at r
  induction r with
  | nil => rfl
  | cons h t ih => rw [List.map_cons, List.map_cons, ih, h.1]
theorem KV.length {kvs : List (κ × V)} {vs : List (κ × Value)} (r : KV kvs vs) : kvs.length = vs.length := Paired.length r
end


/-! ### a tracked dict, its keys ints and texts or tuples of these -/

/-- raw entries of a dict with tuple keys -/
abbrev KT (H : Hp) : List (List Key × V) → List (List Key × Addr × Value) → Prop := Paired fun p q => p.1 = q.1 ∧ H q.2.1 = some (.tup (p.1.map kV)) ∧ RelV p.2 q.2.2
theorem KT.val {H : Hp} {kvs : List (List Key × V)} {xs : List (List Key × Addr × Value)} (r : KT H kvs xs) (k : List Key) : RelO (valV kvs k) ((atKey xs k).map (·.2)) := by
  induction r with
  | nil => exact True.intro
  | @cons p q ps qs h t ih =>
    obtain ⟨h1, _, h2⟩ := h
    by_cases e : p.1 = k
    · have e' : q.1 = k := h1.symm.trans e
      have b : atKey (q :: qs) k = some q.2 := by simp [atKey, List.find?_cons, e']
      rw [valV_pos e, b]; exact h2
    · have e' : ¬ q.1 = k := fun z => e (h1.trans z)
      have b : atKey (q :: qs) k = atKey qs k := by simp [atKey, List.find?_cons, e']
      rw [valV_neg e, b]; exact ih
theorem KT.keeps {H H' : Hp} {kvs : List (List Key × V)} {xs : List (List Key × Addr × Value)} (r : KT H kvs xs) (ht : ∀ b ys, H b = some (.tup ys) → H' b = some (.tup ys)) : KT H' kvs xs :=
  Paired.mapP r fun _ _ z => ⟨z.1, ht _ _ z.2.1, z.2.2⟩

section
variable {P : Program} {w : World} {H : Hp} {h : Heap} {a : Addr}
end

/-- what the dict at a holds at the key y -/
def DGet (H : Hp) (a : Addr) (y : V) (r : Option V) : Prop :=
  (∃ kvs k, Rd H a (.dK kvs) ∧ y = kV k ∧ r = valV kvs k) ∨ ∃ kvs k b, Rd H a (.dT kvs) ∧ y = .ref b ∧ H b = some (.tup (k.map kV)) ∧ r = valV kvs k
/-- the heap behind a[y] = v -/
def DPut (H : Hp) (a : Addr) (y v : V) (H' : Hp) : Prop :=
  (∃ kvs k, H a = some (.dK kvs) ∧ y = kV k ∧ kvs.length < sizeLine ∧ H' = upd H a (.dK (putK kvs k v))) ∨
  ∃ kvs k b, H a = some (.dT kvs) ∧ y = .ref b ∧ H b = some (.tup (k.map kV)) ∧ kvs.length < sizeLine ∧ H' = upd H a (.dT (putK kvs k v))
theorem DGet.k {H : Hp} {a : Addr} {kvs : List (Key × V)} {k : Key} (e : H a = some (.dK kvs)) : DGet H a (kV k) (valV kvs k) := .inl ⟨kvs, k, .inl e, rfl, rfl⟩
theorem DGet.t {H : Hp} {a b : Addr} {kvs : List (List Key × V)} {k : List Key} (e : H a = some (.dT kvs)) (eb : H b = some (.tup (k.map kV))) : DGet H a (.ref b) (valV kvs k) := .inr ⟨kvs, k, b, .inl e, rfl, eb, rfl⟩
theorem DPut.k {H : Hp} {a : Addr} {kvs : List (Key × V)} {k : Key} {v : V} (e : H a = some (.dK kvs)) (hl : kvs.length < sizeLine) : DPut H a (kV k) v (upd H a (.dK (putK kvs k v))) := .inl ⟨kvs, k, e, rfl, hl, rfl⟩
theorem DPut.t {H : Hp} {a b : Addr} {kvs : List (List Key × V)} {k : List Key} {v : V} (e : H a = some (.dT kvs)) (eb : H b = some (.tup (k.map kV))) (hl : kvs.length < sizeLine) :
    DPut H a (.ref b) v (upd H a (.dT (putK kvs k v))) := .inr ⟨kvs, k, b, e, rfl, eb, hl, rfl⟩


section
variable {X : Cx} {pins : List (Addr × Obj)} {σ : St} {H : Hp} {s : Shared} {a : Addr} {y v : V} {u r : Value} {o : Option V} {A : Around} {E : Value → Shared → Prop}


end

section
variable {X : Cx} {pins : List (Addr × Obj)} {σ : St} {H : Hp} {s : Shared} {a : Addr} {kvs : List (Key × V)} {k : Key} {u : Value} {A : Around} {E : Value → Shared → Prop}
end


/-! ### readings and rules -/



section
variable {X : Cx} {o i e value : Expr} {pos pos' tpos : Pos} {td ty tv : TE}
end


/-! ### displays -/
section
variable {X : Cx} {pos : Pos}
end

section
variable {X : Cx} {pins : List (Addr × Obj)} {σ : St} {H : Hp} {s : Shared} {a : Addr} {kvs : List (Key × V)} {A : Around} {E : Value → Shared → Prop}
end
end L2

/-! dicts -/
namespace L4
open PySem PySem.Spec PyProof.Rows L2
section
variable {T : Tb} {X : Cx} {μ : List Addr} {H : Hp}
theorem RepK.mono {μ' : List Addr} {H' : Hp} (e : Ext μ H μ' H') {kvs : List (Key × D)} {vs : List (Key × V)} (h : RepK T μ H kvs vs) : RepK T μ' H' kvs vs := Paired.mapP h fun _ _ z => ⟨z.1, Rep.mono e _ _ z.2⟩
/-! d[k] -/
/-! k in d -/
/-! d[k] = v -/
/-! {} that is changed; dict(d) -/
end
end L4

/-! a list's index of a thing; isinstance against an own class; two dicts of ints -/
namespace L4
open PySem PySem.Spec PyProof.Rows L2
section
variable {T : Tb} {X : Cx}
/-! isinstance against an own class -/
structure InK (K : PySem.W.Frag) (C : Addr) : Prop where
  cl : L2.Cls K C
  a : PySem.W.findIn K (.ref C) "__class__" = some (some (.builtin "object.__class__"))
  n : PySem.W.specialIn K (.builtin "object.__class__") "__get__" = some (some (.builtin "getset_descriptor.__get__"))
  t : PySem.W.takesIn K (.builtin "object.__class__") = some true
  m : PySem.W.mroIn K C (.type "object") = some true
/-! d == e, two dicts of ints that are alike -/
end
end L4

/-! int(x) of a truth or an int; a dict's display of texts -/
namespace L4
open PySem PySem.Spec PyProof.Rows L2
section
variable {T : Tb} {X : Cx}
def oInt1 (ds : List D) : M D := fun σ => match ds with
  | [x] => (match x with
    | .int i => .ok (.int i) σ
    | .bl k => .ok (.int (if k then 1 else 0)) σ
    | _ => .bad)
  | _ => .bad
theorem snd_int1 : SndCall T (fun xs H Q => (∃ i, xs = [.int i] ∧ Q (.int i) H) ∨ ∃ k, xs = [.bl k] ∧ Q (.int (if k then 1 else 0)) H) oInt1 := by
  intro E μ H σ xs vs Q r p h
  match xs with
  | [] => exact h.elim
  | [x] =>
    rw [RepL] at p
    obtain ⟨v, w, rfl, p1, p2⟩ := p
    rw [RepL] at p2; subst p2
    cases x with
    | int i => rw [Rep] at p1; subst p1; exact .inl ⟨i, rfl, Post.here h r (by rw [Rep])⟩
    | bl k => rw [Rep] at p1; subst p1; exact .inr ⟨k, rfl, Post.here h r (by rw [Rep])⟩
    | _ => exact h.elim
  | _ :: _ :: _ => exact h.elim

inductive CDs (X : Cx) : List (Option Expr) → List Expr → List (Str × Str) → Prop
  | nil : CDs X [] [] []
  | cons {k v : Expr} {x y : Str} {ks : List (Option Expr)} {vs : List Expr} {l : List (Str × Str)} : PE X k (tC (.str x)) → PE X v (tC (.str y)) → CDs X ks vs l → CDs X (some k :: ks) (v :: vs) ((x, y) :: l)
theorem CDs.all {ks vs l} (h : CDs X ks vs l) : ks.all (·.isSome) = true ∧ ks.length = vs.length ∧ ks.length = l.length := by
  induction h with
  | nil => exact ⟨rfl, rfl, rfl⟩
  | cons _ _ _ ih => exact ⟨by simpa using ih.1, by simpa using ih.2.1, by simpa using ih.2.2⟩
end
end L4

/-! x += e, x -= e of ints -/
namespace L4
open PySem PySem.Spec PyProof.Rows L2
def augK (o : Int → Int → Int) (i : Nat) (ρ : Ev) (x d : D) : M Fl := fun σ => match x, d with
  | .int a, .int b => .ok (.nx (ρ.set i (some (.int (o a b))))) σ
  | _, _ => .bad
@[simp] theorem augK_ii (o : Int → Int → Int) (i : Nat) (ρ : Ev) (a b : Int) (σ : Sto) : augK o i ρ (.int a) (.int b) σ = .ok (.nx (ρ.set i (some (.int (o a b))))) σ := nr rfl
section
variable {T : Tb} {X : Cx} {e : Expr} {f : Ev → M D} {pos : Pos}
end
end L4

/-! list(range(a, b)) -/
namespace L4
open PySem PySem.Spec PySem.Calls PyProof.Rows L2
section
variable {T : Tb} {X : Cx}
end
end L4

/-! d.setdefault(k, v) -/
namespace L4
open PySem PySem.Spec PyProof.Rows L2
section
variable {T : Tb} {X : Cx} {o e : Expr} {es : List Expr} {f : Ev → M D} {fs : Ev → M (List D)} {name : Str} {apos cpos : Pos} {id : String} {r : V → List V → Hp → VK → Prop} {g : D → List D → M D}
end
end L4

/-! x in a list or tuple, the items compared as deep as they go -/
namespace L4
open PySem PySem.Spec PyProof.Rows L2
open Classical in
section
variable {T : Tb} {X : Cx}
end
end L4

/-! texts -/
namespace L4
open PySem PySem.Spec PyProof.Rows L2
/-! a[b] and len of a text, too -/
def oIxA (x i : D) : M D := fun σ => match x with
  | .str z => (match i with
    | .int k => if z.length ≤ 100000 then (match atI z.cps.toList k with
      | some c => .ok (.str ⟨#[c]⟩) σ
      | none => .bad) else .bad
    | _ => .bad)
  | x => oIx x i σ
def oLenA (xs : List D) : M D := fun σ => match xs with
  | [.str z] => if z.length ≤ 100000 then .ok (.int z.length) σ else .bad
  | xs => oLen xs σ
noncomputable def cStr (i : Int) : Bool := hide (decide (-(10 ^ 40) < i) && decide (i < 10 ^ 40))
def txI (i : Int) : Str := Str.ofString (toString i)
noncomputable def oStr1 (ds : List D) : M D := fun σ => match ds with
  | [.int i] => if cStr i = true then .ok (.str (txI i)) σ else .bad
  | _ => .bad
def hasS (i j : Str) : Bool := !(Builtin.Str.occurrences j i 0 j.length 1).isEmpty
def oInS (x y : D) : M D := fun σ => match x, y with
  | .str i, .str j => .ok (.bl (hasS i j)) σ
  | _, _ => .bad
noncomputable def oIntA (ds : List D) : M D := fun σ => match ds with
  | [.str x] => if x.length ≤ 640 then (match PySem.intText? x with
    | some n => .ok (.int n) σ
    | none => .bad) else .bad
  | ds => oInt1 ds σ
section
variable {T : Tb} {X : Cx}
theorem ix_A : IxR X (fun x y H Q => (rIxL X.K x y H Q ∨ rIxT X.K x y H Q) ∨ rIxS x y H Q) := ix_D.or ix_str
theorem str_of {μ : List Addr} {H : Hp} {z : Str} {v : V} (h : Rep T μ H (.str z) v) : v = .str z := by simpa [Rep] using h
theorem snd_ixA (hK : T.K = X.K) : SndOp T (fun x y H Q => (rIxL X.K x y H Q ∨ rIxT X.K x y H Q) ∨ rIxS x y H Q) oIxA := by
  intro E μ H σ x y v u Q r p q h
  cases x with
  | str z =>
    unfold oIxA at h
    cases y with
    | int k =>
      dsimp only at h
      by_cases hz : z.length ≤ 100000
      · rw [if_pos hz] at h
        cases e : atI z.cps.toList k with
        | none => rw [e] at h; exact h.elim
        | some c =>
          rw [e] at h
          exact .inr ⟨z, k, c, str_of p, int_of q, str_small hz, e, Post.here h r (by rw [Rep])⟩
      · rw [if_neg hz] at h; exact h.elim
    | _ => exact h.elim
  | _ => exact .inl (snd_ix hK E μ H σ _ y v u Q r p q h)
theorem call_lenA : CallR X (.builtin "len") (fun xs H Q => (∃ p ys, xs = [.ref p] ∧ (SqL X.K H p ys ∨ SqT X.K H p ys) ∧ Q (.int ys.length) H) ∨ ∃ z, xs = [.str z] ∧ z.length ≤ sizeLine ∧ Q (.int z.length) H) := call_len_seq.or call_len_str
theorem snd_lenA (hK : T.K = X.K) : SndCall T (fun xs H Q => (∃ p ys, xs = [.ref p] ∧ (SqL X.K H p ys ∨ SqT X.K H p ys) ∧ Q (.int ys.length) H) ∨ ∃ z, xs = [.str z] ∧ z.length ≤ sizeLine ∧ Q (.int z.length) H) oLenA := by
  intro E μ H σ xs vs Q r p h
  match xs with
  | [] => exact .inl (snd_len hK E μ H σ _ vs Q r p h)
  | [x] =>
    cases x with
    | str z =>
      unfold oLenA at h
      dsimp only at h
      by_cases hz : z.length ≤ 100000
      · rw [if_pos hz] at h
        rw [RepL] at p
        obtain ⟨v, r', rfl, q1, q2⟩ := p
        rw [RepL] at q2
        subst q2
        rw [str_of q1]
        exact .inr ⟨z, rfl, str_small hz, Post.here h r (by rw [Rep])⟩
      · rw [if_neg hz] at h; exact h.elim
    | _ => exact .inl (snd_len hK E μ H σ _ vs Q r p h)
  | x :: y :: l =>
    cases x <;> exact .inl (snd_len hK E μ H σ _ vs Q r p h)
theorem log_small {i : Int} (h1 : -(10 ^ 40) < i) (h2 : i < 10 ^ 40) : i.natAbs.log2 < 1920 := by
  by_cases h : i.natAbs = 0
  · rw [h]; decide
  · rw [Nat.log2_lt h]
    have : i.natAbs < 10 ^ 40 := by omega
    exact Nat.lt_of_lt_of_le this (by
      have : (10 : Nat) ^ 40 ≤ 2 ^ 1920 := by
        calc (10 : Nat) ^ 40 ≤ 16 ^ 40 := Nat.pow_le_pow_left (by decide) 40
          _ = 2 ^ 160 := by rw [show (16 : Nat) = 2 ^ 4 by decide, ← Nat.pow_mul]
          _ ≤ 2 ^ 1920 := Nat.pow_le_pow_right (by decide) (by decide)
      exact this)
theorem snd_str1 : SndCall T (fun xs H Q => ∃ i : Int, xs = [.int i] ∧ i.natAbs.log2 < 1920 ∧ Q (.str (toString i)) H) oStr1 := by
  intro E μ H σ xs vs Q r p h
  match xs with
  | [] => exact h.elim
  | [x] =>
    cases x with
    | int i =>
      unfold oStr1 at h
      dsimp only at h
      by_cases hz : cStr i = true
      · rw [if_pos hz] at h
        simp only [cStr, hide_eq, Bool.and_eq_true, decide_eq_true_eq] at hz
        rw [RepL] at p
        obtain ⟨v, r', rfl, q1, q2⟩ := p
        rw [RepL] at q2
        subst q2
        rw [int_of q1]
        exact ⟨i, rfl, log_small hz.1 hz.2, Post.here h r (by rw [Rep]; rfl)⟩
      · rw [if_neg hz] at h; exact h.elim
    | _ => exact h.elim
  | x :: y :: l => cases x <;> exact h.elim
theorem snd_inS : SndOp T (fun x y H Q => ∃ i j, x = .str i ∧ y = .str j ∧ Q (.bl (!(Builtin.Str.occurrences j i 0 j.length 1).isEmpty)) H) oInS := by
  intro E μ H σ x y v u Q r p q h
  cases x with
  | str i =>
    cases y with
    | str j => exact ⟨i, j, str_of p, str_of q, Post.here h r (by rw [Rep]; rfl)⟩
    | _ => exact h.elim
  | _ => exact h.elim
theorem call_intT : CallR X (.type "int") (fun xs H Q => ∃ x n, xs = [.str x] ∧ PySem.intText? x = some n ∧ x.length ≤ 640 ∧ Q (.int n) H) := by
  intro pins s st H xs us Q I r h
  obtain ⟨x, n, rfl, hn, hl, q⟩ := h
  obtain ⟨u, rfl, t, rfl⟩ := vals1 r
  exact PySem.W.KIN.call_text hn hl ⟨.int n, H, I.tok _, ⟨_, rfl⟩, q⟩
theorem call_intA : CallR X (.type "int") (fun xs H Q => ((∃ i, xs = [.int i] ∧ Q (.int i) H) ∨ ∃ k, xs = [.bl k] ∧ Q (.int (if k then 1 else 0)) H) ∨ ∃ x n, xs = [.str x] ∧ PySem.intText? x = some n ∧ x.length ≤ 640 ∧ Q (.int n) H) := call_int1.or call_intT
theorem snd_intA : SndCall T (fun xs H Q => ((∃ i, xs = [.int i] ∧ Q (.int i) H) ∨ ∃ k, xs = [.bl k] ∧ Q (.int (if k then 1 else 0)) H) ∨ ∃ x n, xs = [.str x] ∧ PySem.intText? x = some n ∧ x.length ≤ 640 ∧ Q (.int n) H) oIntA := by
  intro E μ H σ xs vs Q r p h
  match xs with
  | [] => exact h.elim
  | [x] =>
    cases x with
    | str z =>
      unfold oIntA at h
      dsimp only at h
      by_cases hz : z.length ≤ 640
      · rw [if_pos hz] at h
        cases e : PySem.intText? z with
        | none => rw [e] at h; exact h.elim
        | some n =>
          rw [e] at h
          rw [RepL] at p
          obtain ⟨v, r', rfl, q1, q2⟩ := p
          rw [RepL] at q2
          subst q2
          rw [str_of q1]
          exact .inr ⟨z, n, rfl, e, hz, Post.here h r (by rw [Rep])⟩
      · rw [if_neg hz] at h; exact h.elim
    | _ => exact .inl (snd_int1 E μ H σ _ vs Q r p h)
  | x :: y :: l => cases x <;> exact .inl (snd_int1 E μ H σ _ vs Q r p h)
theorem fe_globS {x z : Str} {u : Value} {pos : Pos} (hg : Gl X x) (hm : X.mg x = some u) (r : RelV (.str z) u) (hd : (x == ("__debug__" : Str)) = false := by decide) : FE T X (.Name x pos) (eC (.str z)) := fe_const (pe_glob hg hm r hd) fun _ _ => by rw [Rep]
end
theorem mkS {K : PySem.W.Frag} {mg : Str → Option Value} {h : Heap} {x z : Str} {t : Tok} (X : K.In h) (G : h.Ns mainGlobals mg) (a : PySem.W.nsIn K mainGlobals x = some (some (.str z t))) : ∃ t, mg x = some (.str z t) := ⟨t, PySem.W.mg_of X G a⟩
/-! a walk over the signs of a text -/
def Its (x : Str) : It := ⟨fun i _ => i < x.cps.size, fun i H v H' => H' = H ∧ ∃ c, x.cps[i]? = some c ∧ v = .str ⟨#[c]⟩, fun i _ => x.cps.size ≤ i⟩
theorem turn_str {P : Program} {w : World} {K : PySem.W.Frag} {tg : Expr} (x : Str) (t : Tok) (it : Addr) : Turn P w K tg (Its x) [it] it (fun i h => h.IsStrIter it "str_ascii_iterator" x t i) where
  mem := by simp
  obj := fun i h st b hb => by
    have e : b = it := by simpa using hb
    subst e
    obtain ⟨o, e, c, d⟩ := st
    exact ⟨o, e, fun v z => by rw [d] at z; cases z⟩
  keep := fun i h h' st k => by
    obtain ⟨o, e, c, d⟩ := st
    exact ⟨o, k it (by simp) o e, c, d⟩
  item := by
    intro X hP hw hK hc i pins s σ H E I hf st hg
    subst hP hw hK
    have hi : i < x.cps.size := hg
    obtain ⟨f0, f1, f2, f3, f4, f5⟩ := hf it (by simp)
    refine wpAny_pyNext_ascii_item st (c := x.cps[i]) (by simp [hi]) fun h' st' sb => ?_
    have I1 : Inv X pins σ H { s with heap := h', toks := s.toks + 1 } := I.turned (fun b o hb e => (sb.2 b hb).trans e) f0 f1 f3 f4 f5
    obtain ⟨o, e, c, d⟩ := id st'
    exact ⟨_, rfl, go_of (s := { s with heap := h', toks := s.toks + 1 }) e c d (by decide) ⟨.str ⟨#[x.cps[i]]⟩, H, I1, ⟨_, rfl⟩, ⟨rfl, _, by simp [hi], rfl⟩, st', fun b hb => (hf b hb).1⟩⟩
  done := by
    intro X hP hw hK hc i pins s σ H E I hf st hg
    subst hP hw hK
    have hi : x.cps.size ≤ i := hg
    obtain ⟨f0, f1, f2, f3, f4, f5⟩ := hf it (by simp)
    exact wpAny_pyNext_ascii_end (I.ok.hd hc) st (by simp [hi]) fun h' eb => ⟨rfl, I.turned (t' := s.toks) (fun b o hb e => eb b o hb e) f0 f1 f3 f4 f5⟩
  self := fun _ _ _ _ _ st h => wpAny_pyIter_striter_ascii st h
def sgD (x : Str) : List D := x.cps.toList.map fun c => D.str ⟨#[c]⟩
def strK2 (d : D) : M Src := fun σ => match d with
  | .str z => if z.cps.all (· < 128) = true then .ok (.seq (sgD z)) σ else .bad
  | _ => .bad
def srcT (f : Ev → M D) : Ev → M Src := fun ρ => bnd (f ρ) strK2
section
variable {T : Tb} {X : Cx} {tg iter : Expr} {f : Ev → M D}
def iStr (tl : TE) : TI := fun σ H R => tl σ H fun v H1 => ∃ x, v = .str x ∧ x.cps.all (· < 128) = true ∧ R (Its x) H1
theorem pi_str {l : Expr} {tl : TE} (hl : PE X l tl) : PI X tg l (iStr tl) := by
  intro pins s σ H R I h
  refine thn (hl pins s σ H _ I h) fun v s1 ⟨x, H1, I1, r1, q1⟩ => ?_
  obtain ⟨z, rfl, ha, q⟩ := q1
  obtain ⟨t, rfl⟩ := r1
  refine wpAny_pyIter_ascii ha ?_
  refine ⟨s1.heap.objs.size, [s1.heap.objs.size], _, _, H1, rfl, I1.kept (t' := s1.toks) fun b o e => Heap.get?_push_of_some _ e, turn_str z t _, ⟨_, Heap.get?_push_size _ rfl, rfl, rfl⟩, fun b hb => ?_, q⟩
  have e : b = s1.heap.objs.size := by simpa using hb
  subst e
  exact I1.fpOk (Nat.le_refl _) (I1.hok.fresh (Nat.le_refl _))
theorem fi_str (h : FE T X iter f) : FI T X tg iter (srcT f) := by
  intro pins s st H R I hw
  refine pi_str h pins s st H R I ?_
  obtain ⟨μ, ρ, σ, hE, hr, hp⟩ := hw
  refine ⟨μ, ρ, σ, hE, hr, hp.bind fun d σ1 μ1 v H1 _ e1 r1 q1 p1 => ?_⟩
  cases d with
  | str z =>
    unfold strK2 at p1
    dsimp only at p1
    by_cases ha : z.cps.all (· < 128) = true
    · rw [if_pos ha] at p1
      refine ⟨z, str_of q1, ha, Post.here (R := SrcOk T) p1 r1 fun μ2 H2 σ2 i ex r2 => ?_⟩
      show match some (sgD z)[i]? with | none => True | some none => _ | some (some d) => _
      by_cases hi : i < z.cps.size
      · rw [show (sgD z)[i]? = some (.str ⟨#[z.cps[i]]⟩) by simp [sgD, hi]]
        refine ⟨hi, fun x H' y => ?_⟩
        obtain ⟨rfl, c, hc, rfl⟩ := y
        have : z.cps[i]? = some z.cps[i] := by simp [hi]
        rw [this] at hc
        cases hc
        exact ⟨rfl, by rw [Rep]⟩
      · rw [show (sgD z)[i]? = none by simp [sgD]; omega]
        exact Nat.not_lt.mp hi
    · rw [if_neg ha] at p1; exact p1.elim
  | _ => exact p1.elim
end
/-! methods of texts -/
def methSK (o : D → List D → M D) (m : M (List D)) (x : D) : M D := fun σ => match x with
  | .str _ => bnd m (o x) σ
  | _ => .bad
def eMethS (o : D → List D → M D) (f : Ev → M D) (fs : Ev → M (List D)) : Ev → M D := fun ρ => bnd (f ρ) (methSK o (fs ρ))
section
variable {T : Tb} {X : Cx} {o e : Expr} {es : List Expr} {f : Ev → M D} {fs : Ev → M (List D)} {name : Str} {apos cpos : Pos} {id : String} {r : V → List V → Hp → VK → Prop} {g : D → List D → M D}
theorem fe_methS (pa : PlainAttrs "str") (slot : Slot "str" name id) (hty : typeOf (.builtin id) = pure (.type "method_descriptor")) (hm : MtR X id r) (hs : SndMt T r g) (ho : FE T X o f) (ha : FA T X (e :: es) fs)
    (hbase : attributeBase o name X.env (eval o X.env) = eval o X.env := by rfl)
    (hfew : ((backTo cpos (starEach (e :: es) X.env)).all (fun x => !x.1) && (backToKw cpos (keywordEach [] X.env)).all (fun x => x.1.isSome)
      && decide ((e :: es).length + ([] : List Keyword).length + (if ([] : List Keyword).isEmpty then 0 else 1) < 30)) = true := by rfl)
    (hline : (apos.endLine == cpos.line) = true := by rfl) (hst : starEach (e :: es) X.env = (false, eval e X.env) :: starEach es X.env := by rfl) (hplain : (backTo cpos (starEach es X.env)).any (·.1) = false := by rfl) :
    FE T X (.Call (.Attribute o name apos) (e :: es) [] cpos) (eMethS g f fs) := by
  intro pins s st H Q I h
  refine pe_bm pa slot hty hm ho ha hbase hfew hline hst hplain pins s st H Q I ?_
  obtain ⟨μ, ρ, σ, he, hr, hp⟩ := h
  refine ⟨μ, ρ, σ, he, hr, hp.bind fun x σ1 μ1 v H1 _ e1 r1 p1 q1 => ?_⟩
  cases x with
  | str z =>
    have ev := str_of p1
    subst ev
    exact ⟨rfl, μ1, ρ, σ1, he.mono e1, r1, q1.bind fun ds σ2 μ2 ws H2 _ e2 r2 p2 q2 => hs _ μ2 H2 σ2 (.str z) ds (.str z) ws Q r2 (Rep.mono e2 _ _ p1) p2 q2⟩
  | _ => exact q1.elim
/-! x.split(y) -/
def rSplit : V → List V → Hp → VK → Prop := fun x vs H Q => ∃ z y, x = .str z ∧ vs = [.str y] ∧ (y.length == 0) = false ∧ z.length ≤ sizeLine ∧ (Builtin.Str.partsBetween z (Builtin.Str.occurrences z y 0 z.length (z.length + 1)) y.length).length ≤ sizeLine ∧
  (Txt.split z y).length ≤ sizeLine ∧ ∀ l, H l = none → Q (.ref l) (upd H l (.lst ((Txt.split z y).map V.str)))
theorem vals_strs : ∀ (l : List (Str × Tok)), Vals ((l.map (·.1)).map V.str) (strValues l)
  | [] => .nil
  | (x, t) :: l => .cons ⟨t, rfl⟩ (vals_strs l)
theorem split_new {prog : Program} {w : World} {A : Around} {E : Value → Shared → Prop} {s : Shared} {x y : Str} {t u : Tok} {Q : Value → Shared → Prop} (hy : (y.length == 0) = false) (hsz : x.length ≤ sizeLine)
    (hsz2 : (Builtin.Str.partsBetween x (Builtin.Str.occurrences x y 0 x.length (x.length + 1)) y.length).length ≤ sizeLine)
    (hq : ∀ (l : List (Str × Tok)) (k : Nat), l.map (·.1) = Txt.split x y → Q (.ref s.heap.objs.size) { s with heap := s.heap.push { cls := .type "list", data := .seq (strValues l).toArray }, toks := k }) :
    wpAny (model prog w) A (call (.builtin "str.split") [.str x t, .str y u]) Q E s := by
  cases h1 : (decide (x.length < y.length) || decide (Builtin.Str.strKind x < Builtin.Str.strKind y))
  · cases hf : (Builtin.Str.occurrences x y 0 x.length (x.length + 1)).isEmpty
    · refine call_meets F.slot_str_split (typeIs_str _ _ _) F.entry_str_split (F.args_str_split_2 _ _) (meets_str_split_sep x y t u h1 hy hf hsz hsz2) ?_
      show wants Q E _ { s with toks := _, heap := s.heap.push { cls := .type "list", data := .seq (strsFrom s.toks (Builtin.Str.partsBetween x (Builtin.Str.occurrences x y 0 x.length (x.length + 1)) y.length)).toArray } }
      rw [strsFrom_eq]
      exact hq (numbered s.toks _) _ ((numbered_texts _ _).trans ((if_neg (ne_true_of_eq_false h1)).trans (if_neg (ne_true_of_eq_false hf))).symm)
    · exact call_meets F.slot_str_split (typeIs_str _ _ _) F.entry_str_split (F.args_str_split_2 _ _) (meets_str_split_not_found x y t u h1 hy hf)
        (hq [(x, t)] s.toks ((if_neg (ne_true_of_eq_false h1)).trans (if_pos hf)).symm)
  · exact call_meets F.slot_str_split (typeIs_str _ _ _) F.entry_str_split (F.args_str_split_2 _ _) (meets_str_split_cannot_occur x y t u h1) (hq [(x, t)] s.toks (if_pos h1).symm)
theorem mt_split : MtR X "str.split" rSplit := by
  intro pins s st H x vs v us Q I rx rv h
  obtain ⟨z, y, rfl, rfl, hy, h1, h2, h3, q⟩ := h
  obtain ⟨t, rfl⟩ := rx
  obtain ⟨u, rfl, ru⟩ := rv.one
  obtain ⟨t', rfl⟩ := ru
  refine split_new hy h1 h2 fun l k hl => ?_
  refine ⟨.ref s.heap.objs.size, _, I.laid (t' := k) (o := .lst ((Txt.split z y).map V.str)) (fun _ _ e => Heap.get?_push_of_some _ e) (Nat.le_refl _) ?_, rfl, q _ (I.hok.fresh (Nat.le_refl _))⟩
  exact ⟨by rw [List.length_map]; exact h3, strValues l, _, by rw [← hl]; exact vals_strs l, Heap.get?_push_size _ rfl⟩
noncomputable def spOk (z y : Str) : Bool := hide (!(y.length == 0) && (decide (z.length ≤ 100000) && (decide ((Builtin.Str.partsBetween z (Builtin.Str.occurrences z y 0 z.length (z.length + 1)) y.length).length ≤ 100000) && decide ((Txt.split z y).length ≤ 100000))))
noncomputable def oSplit (x : D) (xs : List D) : M D := fun σ => match x, xs with
  | .str z, [.str y] => if spOk z y = true then .ok (.lst ((Txt.split z y).map D.str)) σ else .bad
  | _, _ => .bad
theorem repl_strs {μ : List Addr} {H : Hp} : ∀ (l : List Str), RepL T μ H (l.map D.str) (l.map V.str)
  | [] => RepL.nil
  | x :: l => RepL.cons (by rw [Rep]) (repl_strs l)
theorem snd_split : SndMt T rSplit oSplit := by
  intro E μ H σ x xs v vs Q r p q h
  cases x with
  | str z =>
    match xs with
    | [] => exact h.elim
    | [y] =>
      cases y with
      | str y =>
        unfold oSplit at h
        dsimp only at h
        by_cases hc : spOk z y = true
        · rw [if_pos hc] at h
          simp only [spOk, hide_eq, Bool.and_eq_true, decide_eq_true_eq, Bool.not_eq_true'] at hc
          rw [RepL] at q
          obtain ⟨w, z', rfl, q1, q2⟩ := q
          rw [RepL] at q2; subst q2
          refine ⟨z, y, str_of p, by rw [str_of q1], hc.1, str_small hc.2.1, str_small hc.2.2.1, str_small hc.2.2.2, fun l hn => ?_⟩
          exact h μ (.ref l) _ (ext_new hn) (r.fresh hn) (by rw [Rep]; exact ⟨l, _, rfl, fun hm => (by obtain ⟨u, hu, _⟩ := r.mem hm; rw [hn] at hu; cases hu), upd_same, repl_strs _⟩)
        · rw [if_neg hc] at h; exact h.elim
      | _ => exact h.elim
    | x1 :: x2 :: l => cases x1 <;> exact h.elim
  | _ => exact h.elim
/-! x.join(ys) -/
def rJoin : V → List V → Hp → VK → Prop := fun x vs H Q => ∃ z a ys, x = .str z ∧ vs = [.ref a] ∧ H a = some (.lst (ys.map V.str)) ∧ z.length ≤ 16 ∧ (ys.map (·.length)).sum + ys.length ≤ 1048576 ∧ Q (.str (Txt.join z ys)) H
theorem strsAre_of : ∀ {ys : List Str} {us : List Value}, Vals (ys.map V.str) us → StrsAre us ys
  | [], _, h => by cases h; exact .nil
  | y :: ys, _, h => by
    cases h with
    | cons h t => obtain ⟨k, rfl⟩ := h; exact .cons _ _ (strsAre_of t)
theorem mt_join : MtR X "str.join" rJoin := by
  intro pins s st H x vs v us Q I rx rv h
  obtain ⟨z, a, ys, rfl, rfl, hH, h1, h2, q⟩ := h
  obtain ⟨t, rfl⟩ := rx
  obtain ⟨u, rfl, ru⟩ := rv.one
  cases ru
  obtain ⟨its, qv, pl, _⟩ := L2.Inv.list I (SqL.of (K := X.K) hH)
  refine join_listW pl.isList (by simpa using strsAre_of qv) h1 h2 fun t' k => ?_
  exact ⟨.str _, H, I.tok _, ⟨_, rfl⟩, q⟩
def strsOf : List D → Option (List Str)
  | [] => some []
  | .str x :: l => (strsOf l).map (x :: ·)
  | _ => none
theorem strsOf_eq : ∀ {l : List D} {ys : List Str}, strsOf l = some ys → l = ys.map D.str
  | [], ys, h => by cases h; rfl
  | d :: l, ys, h => by
    cases d with
    | str x =>
      unfold strsOf at h
      cases e : strsOf l with
      | none => rw [e] at h; cases h
      | some zs => rw [e] at h; cases h; rw [strsOf_eq e]; rfl
    | _ => cases h
theorem strsOf_map : ∀ ys : List Str, strsOf (ys.map D.str) = some ys
  | [] => rfl
  | y :: ys => by show (strsOf (ys.map D.str)).map (y :: ·) = _; rw [strsOf_map ys]; rfl
noncomputable def joOk (z : Str) (ys : List Str) : Bool := hide (decide (z.length ≤ 16) && decide ((ys.map (·.length)).sum + ys.length ≤ 1048576))
noncomputable def oJoin (x : D) (xs : List D) : M D := fun σ => match x, xs with
  | .str z, [y] => (match lsOf σ y with
    | some l => (match strsOf l with
      | some ys => if joOk z ys = true then .ok (.str (Txt.join z ys)) σ else .bad
      | none => .bad)
    | none => .bad)
  | _, _ => .bad
theorem repl_strs_eq {μ : List Addr} {H : Hp} : ∀ {l : List Str} {us : List V}, RepL T μ H (l.map D.str) us → us = l.map V.str
  | [], us, h => by rw [List.map_nil, RepL] at h; exact h
  | x :: l, us, h => by
    rw [List.map_cons, RepL] at h
    obtain ⟨v, r, rfl, h1, h2⟩ := h
    rw [str_of h1, repl_strs_eq h2]; rfl
theorem snd_join : SndMt T rJoin oJoin := by
  intro E μ H σ x xs v vs Q r p q h
  cases x with
  | str z =>
    match xs with
    | [] => exact h.elim
    | [y] =>
      unfold oJoin at h
      dsimp only at h
      cases el : lsOf σ y with
      | none => rw [el] at h; exact h.elim
      | some l =>
        rw [el] at h
        dsimp only at h
        cases es : strsOf l with
        | none => rw [es] at h; exact h.elim
        | some ys =>
          rw [es] at h
          dsimp only at h
          by_cases hc : joOk z ys = true
          · rw [if_pos hc] at h
            simp only [joOk, hide_eq, Bool.and_eq_true, decide_eq_true_eq] at hc
            rw [RepL] at q
            obtain ⟨w, z', rfl, q1, q2⟩ := q
            rw [RepL] at q2; subst q2
            obtain ⟨a, us, rfl, h1, h2⟩ := r.ls q1 el
            have e1 := strsOf_eq es
            have e2 : us = ys.map V.str := by
              subst e1
              exact repl_strs_eq h2
            rw [e2] at h1
            exact ⟨z, a, ys, str_of p, rfl, h1, hc.1, hc.2, Post.here h r (by rw [Rep])⟩
          · rw [if_neg hc] at h; exact h.elim
    | x1 :: x2 :: l => exact h.elim
  | _ => exact h.elim
end
end L4

/-! for a, b in enumerate(xs), zip(xs, ys) -/
namespace L4
open PySem PySem.Spec PyProof.Rows L2
/-! what is never come to -/
section
variable {X : Cx} {pins : List (Addr × Obj)} {σ : St} {H : Hp} {s : Shared} {h' : Heap}
end
/-! the loop: what comes next, by the turn and the store -/
abbrev NX := Nat → Sto → Option (Option D)
section
variable {T : Tb} {X : Cx} {tgt iter : Expr} {body : List Stmt} {src : Ev → M NX} {t : D → Ev → Option Ev} {g : Ev → M Fl} {pos : Pos}
end
/-! enumerate(xs), zip(xs, ys) -/
section
variable {T : Tb} {X : Cx} {elts : List Expr} {kk : Nat} {p0 p pos : Pos} {f g : Ev → M D}
end
end L4

/-! texts as lists of signs -/
namespace L4
open PySem PySem.Spec PyProof.Rows L2
open PySem.Builtin.Str (occurrences partsBetween subAt)
theorem str_ext {x y : Str} (h : x.cps.toList = y.cps.toList) : x = y := by
  obtain ⟨⟨a⟩⟩ := x; obtain ⟨⟨b⟩⟩ := y; simp at h; subst h; rfl
/-- how often -/
theorem occ_ge (s : Str) (c hi limit : Nat) : ∀ (n a : Nat) (st : Array Nat × Nat), st.snd ≤ a → st.fst.size + n ≤ limit →
    st.fst.size + (List.range' a n).countP (fun i => decide (i + 1 ≤ hi ∧ subAt s ⟨#[c]⟩ i = true)) ≤ (forIn (List.range' a n) st (StrLaws.occBody s ⟨#[c]⟩ hi limit)).run.fst.size
  | 0, a, st, _, _ => by simp
  | n + 1, a, st, h1, h2 => by
    rw [List.range'_succ, List.forIn_cons, List.countP_cons]
    unfold StrLaws.occBody
    by_cases hc : a + 1 ≤ hi ∧ subAt s ⟨#[c]⟩ a = true
    · rw [if_pos (show ((st.fst.size < limit ∧ st.snd ≤ a) ∧ a + (⟨#[c]⟩ : Str).length ≤ hi) ∧ subAt s ⟨#[c]⟩ a = true from ⟨⟨⟨by omega, h1⟩, hc.1⟩, hc.2⟩), if_pos (by simpa using hc)]
      refine Nat.le_trans ?_ (occ_ge s c hi limit n (a + 1) (st.fst.push a, a + (⟨#[c]⟩ : Str).length) (Nat.le_refl _) (by simp; omega))
      simp; omega
    · rw [if_neg (fun h : ((st.fst.size < limit ∧ st.snd ≤ a) ∧ a + (⟨#[c]⟩ : Str).length ≤ hi) ∧ subAt s ⟨#[c]⟩ a = true => hc ⟨h.1.2, h.2⟩), if_neg (by simpa using hc)]
      exact occ_ge s c hi limit n (a + 1) (st.fst, st.snd) (by show st.snd ≤ a + 1; omega) (by show st.fst.size + n ≤ limit; omega)
theorem count_range (c : Nat) : ∀ l : List Nat, l.count c = (List.range l.length).countP (fun i => decide (l[i]? = some c))
  | [] => rfl
  | d :: l => by
    rw [List.count_cons, count_range c l, List.length_cons, List.range_succ_eq_map, List.countP_cons, List.countP_map]
    congr 1
    by_cases h : d = c <;> simp [h]
theorem cuts_ge (x : Str) (c : Nat) : x.cps.toList.count c ≤ (occurrences x ⟨#[c]⟩ 0 x.length (x.length + 1)).length := by
  have h := occ_ge x c x.length (x.length + 1) (x.length + 1) 0 (#[], 0) (Nat.le_refl _) (by simp)
  rw [StrLaws.occ_eq, Array.length_toList, Nat.sub_zero]
  refine Nat.le_trans ?_ h
  rw [count_range, ← List.range_eq_range', List.range_succ, List.countP_append]
  have e : x.cps.toList.length = x.length := by simp [Str.length]
  rw [e]
  refine Nat.le_trans ?_ (Nat.le_add_left _ _)
  refine Nat.le_trans ?_ (Nat.le_add_right _ _)
  refine Nat.le_of_eq (List.countP_congr fun i _ => ?_)
  rw [decide_eq_true_eq, decide_eq_true_eq]
  exact (StrLaws.subAt_one x c i).symm
/-! joined texts -/
def jl (g : List Nat) : List (List Nat) → List Nat
  | [] => []
  | p :: r => p ++ r.flatMap fun q => g ++ q
theorem glued_list (z : Str) : ∀ (l : List Str) (a : Array Nat), (l.foldl (fun acc p => acc ++ z.cps ++ p.cps) a).toList = a.toList ++ (l.map fun y => y.cps.toList).flatMap fun q => z.cps.toList ++ q
  | [], a => by simp
  | p :: l, a => by rw [List.foldl_cons, glued_list z l]; simp [List.append_assoc]
theorem join_list' (z : Str) (ys : List Str) : (Txt.join z ys).cps.toList = jl z.cps.toList (ys.map fun y => y.cps.toList) := by
  cases ys with
  | nil => rfl
  | cons y l =>
    show ((l.foldl (fun acc p => acc ++ z.cps ++ p.cps) y.cps).toList) = _
    rw [glued_list]; rfl
theorem take_pre {c : Nat} : ∀ (p : List Nat), c ∉ p → ∀ r : List (List Nat), (p ++ r.flatMap fun q => [c] ++ q).takeWhile (fun d => decide (d ≠ c)) = p
  | [], _, [] => rfl
  | [], _, q :: r => by simp
  | d :: p, h, r => by
    rw [List.mem_cons, not_or] at h
    rw [List.cons_append, List.takeWhile_cons, if_pos (by simpa using fun e : d = c => h.1 e.symm), take_pre p h.2 r]
theorem jl_inj {c : Nat} : ∀ (r r' : List (List Nat)) (p p' : List Nat), c ∉ p → c ∉ p' → (∀ q ∈ r, c ∉ q) → (∀ q ∈ r', c ∉ q) → jl [c] (p :: r) = jl [c] (p' :: r') → p :: r = p' :: r'
  | r, r', p, p', h1, h2, h3, h4, h => by
    have e1 : p = p' := by
      have := congrArg (List.takeWhile fun d => decide (d ≠ c)) h
      unfold jl at this
      rwa [take_pre p h1, take_pre p' h2] at this
    subst e1
    unfold jl at h
    have h5 := List.append_cancel_left h
    cases r with
    | nil => cases r' with
      | nil => rfl
      | cons q' r' => simp at h5
    | cons q r => cases r' with
      | nil => simp at h5
      | cons q' r' =>
        have h6 : jl [c] (q :: r) = jl [c] (q' :: r') := by
          unfold jl
          simpa using h5
        have := jl_inj r r' q q' (h3 q (by simp)) (h4 q' (by simp)) (fun z hz => h3 z (by simp [hz])) (fun z hz => h4 z (by simp [hz])) h6
        rw [this]
termination_by r => r.length
theorem jl_count {c : Nat} : ∀ (r : List (List Nat)) (p : List Nat), (jl [c] (p :: r)).count c = r.length + ((p :: r).map (List.count c)).sum
  | [], p => by simp [jl]
  | q :: r, p => by
    have := jl_count (c := c) r q
    unfold jl at this ⊢
    simp at this ⊢
    omega
/-- of one sign, that stands in no part -/
theorem split_join {c : Nat} (hc : c < 256) {y : Str} {l : List Str} (h : ∀ z ∈ y :: l, c ∉ z.cps.toList) : Txt.split (Txt.join ⟨#[c]⟩ (y :: l)) ⟨#[c]⟩ = y :: l := by
  generalize hx : Txt.join ⟨#[c]⟩ (y :: l) = x
  have ex : x.cps.toList = jl [c] (y.cps.toList :: l.map fun y => y.cps.toList) := by rw [← hx, join_list']; rfl
  -- whatever joins to x and holds no c is it
  have key : ∀ (ps : List Str), ps ≠ [] → (∀ z ∈ ps, c ∉ z.cps.toList) → Txt.join ⟨#[c]⟩ ps = x → ps = y :: l := fun ps hne hp he => by
    cases ps with
    | nil => exact absurd rfl hne
    | cons p r =>
      have e1 : jl [c] (p.cps.toList :: r.map fun y => y.cps.toList) = jl [c] (y.cps.toList :: l.map fun y => y.cps.toList) := by
        rw [← ex, ← he, join_list']; rfl
      have e2 := jl_inj _ _ _ _ (hp p (by simp)) (h y (by simp)) (fun q hq => by obtain ⟨z, hz, rfl⟩ := List.mem_map.mp hq; exact hp z (by simp [hz])) (fun q hq => by obtain ⟨z, hz, rfl⟩ := List.mem_map.mp hq; exact h z (by simp [hz])) e1
      have e3 : (p :: r).map (fun y : Str => y.cps.toList) = (y :: l).map fun y : Str => y.cps.toList := e2
      exact List.map_inj_right (fun a b hab => str_ext hab) |>.mp e3
  have one : c ∉ x.cps.toList → [x] = y :: l := fun hn => key [x] (by simp) (by simpa using hn) (by unfold Txt.join; rfl)
  have kd : ¬ (Builtin.Str.strKind x < Builtin.Str.strKind ⟨#[c]⟩) := by
    have : Builtin.Str.strKind ⟨#[c]⟩ = 1 := by unfold Builtin.Str.strKind; simp [hc]
    rw [this]
    unfold Builtin.Str.strKind
    split
    · omega
    · split <;> omega
  unfold Txt.split
  split
  · rename_i h1
    rw [Bool.or_eq_true, decide_eq_true_eq, decide_eq_true_eq] at h1
    rcases h1 with h1 | h1
    · refine one fun hm => ?_
      have : x.length = 0 := by have : (⟨#[c]⟩ : Str).length = 1 := rfl; omega
      have : x.cps.toList = [] := by
        have e : x.cps.toList.length = x.length := by simp [Str.length]
        exact List.length_eq_zero_iff.mp (by omega)
      rw [this] at hm; cases hm
    · exact absurd h1 kd
  · have cg := cuts_ge x c
    split
    · rename_i h2
      rw [List.isEmpty_iff] at h2
      rw [h2] at cg
      exact one (List.count_eq_zero.mp (Nat.le_zero.mp cg))
    · have hg := StrLaws.glued_between_self x ⟨#[c]⟩ (x.length + 1)
      have hl := length_partsBetween x (occurrences x ⟨#[c]⟩ 0 x.length (x.length + 1)) (⟨#[c]⟩ : Str).length
      refine key _ (fun z => by rw [z] at hl; simp at hl) (fun z hz => ?_) hg
      generalize hP : partsBetween x (occurrences x ⟨#[c]⟩ 0 x.length (x.length + 1)) (⟨#[c]⟩ : Str).length = P at *
      have e4 : x.cps.toList = jl [c] (P.map fun y => y.cps.toList) := by
        have : Txt.join ⟨#[c]⟩ P = x := hg
        rw [← this, join_list']
      cases P with
      | nil => cases hz
      | cons p r =>
        have e5 := jl_count (c := c) (r.map fun y : Str => y.cps.toList) p.cps.toList
        rw [List.map_cons] at e4
        rw [← e4] at e5
        simp only [List.length_cons, List.length_map] at hl e5
        have e6 : (((p.cps.toList :: r.map fun y : Str => y.cps.toList)).map (List.count c)).sum = 0 := by omega
        have e7 := List.sum_eq_zero_iff_forall_eq_nat.mp e6
        exact List.count_eq_zero.mp (e7 _ (List.mem_map.mpr ⟨z.cps.toList, by
          have : z.cps.toList ∈ (p :: r).map fun y : Str => y.cps.toList := List.mem_map.mpr ⟨z, hz, rfl⟩
          simpa using this, rfl⟩))
/-! numbers as texts -/
theorem digs_len : ∀ (k m : Nat), m < 10 ^ (k + 1) → (Nat.toDigits 10 m).length ≤ k + 1
  | 0, m, h => by rw [Nat.toDigits_of_lt_base (by simpa using h)]; simp
  | k + 1, m, h => by
    by_cases h1 : m < 10
    · rw [Nat.toDigits_of_lt_base h1]; simp
    · have hm : m % 10 < 10 := Nat.mod_lt m (by decide)
      have t : Nat.toDigits 10 (m / 10) ++ Nat.toDigits 10 (m % 10) = Nat.toDigits 10 (10 * (m / 10) + m % 10) := Nat.toDigits_append_toDigits (by decide) (by omega) hm
      rw [Nat.div_add_mod] at t
      rw [← t, List.length_append, Nat.toDigits_of_lt_base hm]
      have hd : m / 10 < 10 ^ (k + 1) := Nat.div_lt_of_lt_mul (by rw [Nat.pow_succ, Nat.mul_comm] at h; exact h)
      have := digs_len k (m / 10) hd
      simp; omega
theorem tx_list (m : Nat) : (txI (m : Int)).cps.toList = (Nat.toDigits 10 m).map Char.toNat := PySem.W.KIN.signs_num m
theorem tx_dig {i : Int} (h : 0 ≤ i) : ∀ c ∈ (txI i).cps.toList, 48 ≤ c ∧ c ≤ 57 := by
  obtain ⟨m, rfl⟩ := Int.eq_ofNat_of_zero_le h
  intro c hc
  rw [tx_list] at hc
  obtain ⟨ch, hch, e⟩ := List.mem_map.mp hc
  have r := PyProof.Rows.digit_range (Nat.isDigit_of_mem_toDigits (by decide) (by decide) hch)
  rw [← e]
  exact r
theorem tx_len {i : Int} (h : 0 ≤ i) (k : Nat) (h2 : i < 10 ^ (k + 1)) : (txI i).length ≤ k + 1 := by
  obtain ⟨m, rfl⟩ := Int.eq_ofNat_of_zero_le h
  have e : (txI (m : Int)).cps.toList.length = (txI (m : Int)).length := by simp [Str.length]
  rw [← e, tx_list, List.length_map]
  exact digs_len k m (by exact_mod_cast h2)
theorem tx_ne {i : Int} (h : 0 ≤ i) : (txI i).cps.toList ≠ [] := by
  obtain ⟨m, rfl⟩ := Int.eq_ofNat_of_zero_le h
  rw [tx_list]
  intro e
  have h := toDigits_len_ge 10 m
  rw [List.map_eq_nil_iff.mp e] at h
  exact absurd h (by decide)
end L4

/-! a < b <= c as a test -/
namespace L4
open PySem PySem.Spec PyProof.Rows L2
section
variable {T : Tb} {X : Cx} {a b c : Expr} {fa fb fc : Ev → M D} {pos : Pos}
theorem ft_chain {op op' : CmpOp} {r r' : R2} {o o' : D → D → M D} (ho : OpR X (compareOp op) r) (hs : SndOp T r o) (ho' : OpR X (compareOp op') r') (hs' : SndOp T r' o') (ha : FE T X a fa) (hb : FE T X b fb) (hc : FE T X c fc)
    (hm : lastMarks [op, op'] [b, c] = false := by with_unfolding_all rfl) : FT T X (.Compare a [op, op'] [b, c] pos) (eT (eChain o o' fa fb fc)) := by
  intro pins s st H Q I h
  refine pt_chain ho ho' ha hb hc hm pins s st H Q I ?_
  obtain ⟨μ, ρ, σ, hE, hr, hp0⟩ := h
  have hp : Post T (XE X st) (Rep T) μ H (eChain o o' fa fb fc ρ σ) (fun x H' => ∃ k, x = .bl k ∧ Q k H') := hp0.bind fun d σ1 μ1 v H1 _ e1 r1 p1 q1 => by
    obtain ⟨k, ev, q⟩ := tst_bl1 p1 q1
    exact ⟨k, ev, q.here r1 rfl⟩
  refine ⟨μ, ρ, σ, hE, hr, hp.bind fun x σ1 μ1 v H1 _ e1 r1 q1 p1 => ⟨μ1, ρ, σ1, hE.mono e1, r1, p1.bind fun y σ2 μ2 w H2 _ e2 r2 q2 p2 => ?_⟩⟩
  refine hs _ μ2 H2 σ2 x y v w _ r2 (Rep.mono e2 _ _ q1) q2 (p2.bind fun z σ3 μ3 u H3 _ e3 r3 q3 p3 => ?_)
  obtain ⟨k, rfl, ev, p4⟩ := tst_bl q3 p3
  refine ⟨k, ev, ?_⟩
  cases k with
  | true =>
    unfold ifK at p4; rw [if_pos rfl] at p4 ⊢
    exact ⟨μ3, ρ, σ3, ((hE.mono e1).mono e2).mono e3, r3, p4.bind fun z σ5 μ5 u5 H5 _ e5 r5 q5 p5 => hs' _ μ5 H5 σ5 y z w u5 _ r5 (Rep.mono e5 _ _ (Rep.mono e3 _ _ q2)) q5 p5⟩
  | false => unfold ifK at p4; rw [if_neg Bool.false_ne_true] at p4 ⊢; exact Post.here p4 r3 (by rw [Rep])
end
end L4

namespace L4
open PySem PySem.Spec PyProof.Rows L2
/-! o.f += e of ints -/
section
variable {T : Tb} {X : Cx}
/-! k not in d -/
/-! methods with defaults -/
def OkB (T : Tb) (P : Program) (w : World) (mg : Str → Option Value) (base : Heap) (k : Nat) (f : Addr) (ps : List Str) (dv : List Value) (fn : List D → M D) : Prop :=
  ∃ fd, Binds T.K fd ps [] ∧ Binds T.K fd ps dv ∧ FnOk P w T.K mg base (CXE P w) k f fd ps (spF T ps.length fn)
structure HasMD (K : PySem.W.Frag) (C : Addr) (x qual : Str) (st : Stmt) (ps : List Str) (dv : List Value) (f : Addr) : Prop where
  ex : ∃ fd, (∃ (oc : Value) (od : Option Addr) (dV kV doc pm : Value) (an : Option Addr) (cdv ct : Value) (osl : Array (Option Value)),
    fd = PySem.W.fnOf x qual (defArgs st) (defBody st) (defScope st) dV kV doc pm an cdv ct ∧ K.lookup f = some ⟨oc, od, .func fd, osl⟩ ∧ PySem.W.codeIn K cdv qual = true) ∧ Binds K fd ps [] ∧ Binds K fd ps dv
end
section
variable {P : Program} {w : World} {K : PySem.W.Frag} {mg : Str → Option Value} {base : Heap} {ca : Nat → Addr}
theorem OkB.hide {T : Tb} {k : Nat} {f : Addr} {ps : List Str} {dv : List Value} {fn : List D → M D} (h : OkB T P w mg base k f ps dv fn) : OkB T P w mg base k f ps dv (L4.hide fn) := by rw [hide_eq]; exact h
theorem OkB.frz {T : Tb} {k : Nat} {f : Addr} {ps : List Str} {dv : List Value} {fn : List D → M D} (h : OkB T P w mg base k f ps dv fn) : OkB T P w mg base k f ps dv (fun ds => L4.frz (fn ds)) := by
  obtain ⟨fd, h1, h2, h3⟩ := h
  exact ⟨fd, h1, h2, fok_frz h3⟩
end
section
variable {T : Tb} {X : Cx}
end
end L4

/-! d.get(k, v); a comprehension over pairs -/
namespace L4
open PySem PySem.Spec PyProof.Rows L2
section
variable {T : Tb} {X : Cx}
end
section
variable {X : Cx} {pins : List (Addr × Obj)} {st : St} {H : Hp} {s : Shared} {x z0 : Str} {M' : List Str} {ix : List Nat} {scope : Scope} {fp : List Addr}
end
section
variable {T : Tb} {X : Cx}
end
end L4

/-! sorted(xs) of ints -/
namespace L4
open PySem PySem.Spec PyProof.Rows L2
section
variable {T : Tb} {X : Cx}
/-! d.update(e) -/
def apart (n : Nat) : D → Bool
  | .ref m => !(m == n)
  | _ => true
end
end L4

/-! list(d) of a dict -/
namespace L4
open PySem PySem.Spec PyProof.Rows L2
section
variable {T : Tb} {X : Cx}
def keyV : Key → D
  | .inl i => .int i
  | .inr x => .str x
end
end L4

/-! sorted(d) of a dict with int keys -/
namespace L4
open PySem PySem.Spec PySem.Calls PySem.W PyProof.Rows PyProof.V
end L4
namespace L4
open PySem PySem.Spec PyProof.Rows L2
section
variable {T : Tb} {X : Cx}
end
end L4

/-! a method whose defaults are left out -/
namespace L4
open PySem PySem.Spec PyProof.Rows L2
section
variable {T : Tb} {X : Cx}
end
end L4

namespace L2
open PySem PySem.Spec PyProof.Rows



end L2

/-! a dict display with written keys -/
namespace L4
open PySem PySem.Spec PyProof.Rows L2
section
variable {T : Tb} {X : Cx}
inductive Dsp (T : Tb) (X : Cx) : List (Option Expr) → List Expr → List Key → (Ev → M (List D)) → Prop
  | nil : Dsp T X [] [] [] aNil
  | cons {k v : Expr} {kk : Key} {f : Ev → M D} {ks : List (Option Expr)} {vs : List Expr} {kks : List Key} {fs : Ev → M (List D)} (hk : FE T X k (eC (keyV kk))) (hv : FE T X v f) (r : Dsp T X ks vs kks fs) : Dsp T X (some k :: ks) (v :: vs) (kk :: kks) (aCons f fs)
end
end L4

/-! An exception that comes out of a comprehension's element. -/
namespace L4
open PySem PySem.Spec PyProof.Rows L2
theorem Post.mapE {α γ : Type} {T : Tb} {E E' : XK} {R : List Addr → Hp → α → γ → Prop} {μ : List Addr} {H : Hp} {o : Out α} {Q : γ → Hp → Prop} (h : Post T E R μ H o Q) (k : ∀ cls H', E cls none H' → E' cls none H') : Post T E' R μ H o Q := by
  cases o with
  | ok a σ => exact h
  | ex x σ => exact fun μ' H' e r => k _ _ (h μ' H' e r)
  | bad => exact h
theorem frames_on {h h' B B' : Heap} : ∀ {l : List Env}, h.FunFrames B l → (∀ b, B.get? b = none → B'.get? b = none) → (∀ b ∈ frs l, ∀ o, h.get? b = some o → h'.get? b = some o) → h'.FunFrames B' l
  | [], _, _, _ => trivial
  | env :: r, ⟨hk, ⟨L, o, hf, hn, ho, hd⟩, hr⟩, hb, k => by
    have e1 : frs (env :: r) = L :: frs r := by unfold frs; rw [List.filterMap_cons, hf]
    refine ⟨hk, ⟨L, o, hf, hb L hn, k L (by rw [e1]; exact .head _) o ho, hd⟩, frames_on hr hb fun b m o e => k b (by rw [e1]; exact .tail _ m) o e⟩
def blkE (X : Cx) (N' : List Str) (scope : Scope) (cl : List (Str × Addr)) (C : Addr) (s₀ : Shared) (H₀ : Hp) (ex : List Addr) (xe : Value → Shared → Prop) : Cx := { blk X N' scope cl C s₀ H₀ ex with xe := xe }
section
variable {T : Tb} {X : Cx} {pins : List (Addr × Obj)} {st : St} {H : Hp} {s : Shared}
theorem inv_xe {xe : Value → Shared → Prop} (I : Inv X pins st H s) : Inv { X with xe := xe } pins st H s :=
  ⟨⟨I.ok.mod, I.ok.kind, I.ok.glob, I.ok.blt, I.ok.above, I.ok.inj, I.ok.has, I.ok.cab, I.ok.hd, I.ok.frames, I.ok.stk, I.ok.exf, I.ok.bs, I.ok.bsz, I.ok.noex, I.ok.exfs, I.ok.funs, I.ok.frf⟩, I.os, I.bare, I.base, I.loc, I.cell, I.free, I.freeC, I.pin, I.hok, I.len⟩
/-- a made one is noted -/
theorem note_made {ea : Addr} {cls : Value} (I : Inv X pins st H s) {env : Env} {outer : List Env} (hs : X.stack = env :: outer) {L : Addr} (hf : env.frame = some L) {h' : Heap} {args : List Value} (hx : Heap.MadeExcOf s.heap h' ea cls args) {M : Model} {E : Value → Shared → Prop} {Q : Unit → Shared → Prop}
    (h : ∀ h4 t, Heap.HeldW (PySem.W.hideAll s.heap (frs X.stack)) (env :: outer) ea cls (.ref t) L h4 → h'.UpToSlots h4 → Q () { s with heap := h4 }) : wpAny M X.A (noteFrame (.ref ea) env) Q E { s with heap := h' } := by
  have ff : s.heap.FunFrames (PySem.W.hideAll s.heap (frs X.stack)) (env :: outer) := by
    have := PySem.W.funFrames_hide (as := frs X.stack) I.stack (fun env he a ha => List.mem_filterMap.mpr ⟨env, he, ha⟩)
    rwa [hs] at this ⊢
  obtain ⟨t, he, htn, ht⟩ := hx.there
  have hen : (PySem.W.hideAll s.heap (frs X.stack)).get? ea = none := by
    cases q : (PySem.W.hideAll s.heap (frs X.stack)).get? ea with
    | none => rfl
    | some u => have := PySem.W.of_hideAll _ q; rw [hx.new] at this; cases this
  unfold noteFrame
  simp only [hf]
  refine wpAny_bind (wpAny_field he rfl (x := .none) rfl ?_)
  rw [if_neg (by decide)]
  refine wpAny_entryW (base := PySem.W.hideAll s.heap (frs X.stack)) (outer := outer) (a0 := .ref t) (by rw [← hs]; exact I.ok.frames) (ff.of_keeps fun b o e _ => ⟨o, hx.keeps b o e, rfl⟩) hf he (fun b o q => hx.keeps b o (PySem.W.of_hideAll _ q)) hen rfl (by simp) rfl fun h4 hN => ?_
  obtain ⟨k1, k2, k3, k4⟩ := hN
  exact h h4 t ⟨k1, hen, k2, k3⟩ k4
variable {N' : List Str} {scope : Scope} {cl : List (Str × Addr)} {H3 : Hp} {s3 : Shared} {fp : List Addr} {xe : Value → Shared → Prop}
/-- what was noted leaves the block -/
theorem blk_exit {pY : List (Addr × Obj)} {st' : St} {H' : Hp} {ea : Addr} {cls a0 : Value} {B : Heap} {s4 : Shared} {what : String} (I3 : Inv X pins st H3 s3) (hs : X.stack = X.env :: X.outer) (hf : X.env.frame = some X.env.locals) (hfp : ∀ b ∈ fp, FpOk X pins H3 b ∧ b < s3.heap.objs.size)
    (thr : Thr X st cls H') (IY : Inv (blkE X N' scope cl s3.heap.objs.size s3 H3 fp xe) pY st' H s) (held : Heap.HeldW B X.stack ea cls a0 X.env.locals s4.heap) (hn : H' ea = none) (hnew : s.heap.get? ea = none)
    (hT : ∀ b o, H' b = some o → ∃ ob, B.get? b = some ob) (hB : ∀ b o, s.heap.get? b = some o → H b = none → b ∉ frs X.stack → B.get? b = some o) (hA : ∀ b o, s.heap.get? b = some o → b ∉ frs X.stack → ∃ o', B.get? b = some o')
    (hos : s4.os = s.os) (hbare : AllBare s4.gens) (un4 : Un (frs X.stack) [] H H' s.heap s4.heap) (hok4 : HOk X.prog X.w H' s4.heap) :
    ∃ m, s4.heap.Ns s3.heap.objs.size m ∧ ∀ h5, Heap.SameBut s3.heap.objs.size s4.heap h5 → ∀ cenv : Env, cenv.locals = s3.heap.objs.size → wpAny (model X.prog X.w) X.A (passOn what (.ref ea) cenv : Sem Value) (fun _ _ => False) X.xe { s4 with heap := h5 } := by
  have frC : s3.heap.objs.size ∉ frs X.stack := fun z => by
    obtain ⟨_, o, e, _⟩ := I3.stack.mem z
    exact Nat.lt_irrefl _ (Heap.lt_size e)
  have HC : H s3.heap.objs.size = none := IY.free
  obtain ⟨m, ⟨oC, es, ep, hoC, hrest⟩, _⟩ := IY.loc
  have hoC' : s.heap.get? s3.heap.objs.size = some oC := hoC
  have BC := hB _ oC hoC' HC frC
  have HC' : H' s3.heap.objs.size = none := un4.free _ oC hoC' HC (by simp)
  refine ⟨m, ⟨oC, es, ep, held.1 _ _ BC, hrest⟩, fun h5 sb cenv _ => ?_⟩
  obtain ⟨k1, k2, k3, oe, vs, T0, oT, ts, he, hc, hd, h1, hnT, hTe, hT0, hdT, h3⟩ := held
  have sz : 3 < ts.size := (Array.getElem?_eq_some_iff.mp h3).1
  have eC : ea ≠ s3.heap.objs.size := fun z => by rw [z, BC] at k2; cases k2
  have TC : T0 ≠ s3.heap.objs.size := fun z => by rw [z, BC] at hnT; cases hnT
  have he5 : h5.get? ea = some oe := (sb.2 _ eC).trans he
  have hT5 : h5.get? T0 = some oT := (sb.2 _ TC).trans hT0
  have go : ∀ mk : Value, X.xe (.ref ea) { s4 with heap := h5.update T0 (Obj.mapFields (·.setIfInBounds 3 mk)) } := fun mk => by
    have oth : ∀ b, b ≠ T0 → (h5.update T0 (Obj.mapFields (·.setIfInBounds 3 mk))).get? b = h5.get? b := fun b hb => Heap.get?_update_other _ _ (Ne.symm hb)
    have selfT := Heap.get?_update_self (Obj.mapFields (·.setIfInBounds 3 mk)) hT5 (Obj.isFreed_of_fields (Obj.data_mapFields hdT _))
    have stay : ∀ b o, B.get? b = some o → b ≠ s3.heap.objs.size → (h5.update T0 (Obj.mapFields (·.setIfInBounds 3 mk))).get? b = some o := fun b o e n =>
      (oth b fun z => by rw [z, hnT] at e; cases e).trans ((sb.2 b n).trans (k1 b o e))
    have frT : ∀ b ∈ frs X.stack, b ≠ T0 ∧ b ≠ s3.heap.objs.size := fun b hb => by
      obtain ⟨_, o, e, nf⟩ := k3.mem hb
      refine ⟨fun z => ?_, fun z => frC (z ▸ hb)⟩
      rw [z, hT0] at e; cases e; exact nf ts hdT
    have frK : ∀ b ∈ frs X.stack, ∀ o, s4.heap.get? b = some o → (h5.update T0 (Obj.mapFields (·.setIfInBounds 3 mk))).get? b = some o := fun b hb o e =>
      (oth b (frT b hb).1).trans ((sb.2 b (frT b hb).2).trans e)
    have Is : Inv X pins st H s := L2.Inv.call' (s' := s) (ch := fp) I3 IY.os IY.base IY.hok IY.bare (fun b hb => ⟨(hfp b hb).1.2.2.2.1, (hfp b hb).1.2.1, (hfp b hb).1.2.2.2.2.1, (hfp b hb).1.2.2.2.2.2⟩)
    have ltC : ∀ z c, X.env.cells.lookup z = some c → c < s3.heap.objs.size := fun z c e => by obtain ⟨v, q⟩ := I3.cell z c e; exact q.lt
    have hid : ∀ b o, s.heap.get? b = some o → b ≠ s3.heap.objs.size → (PySem.W.hideAll s.heap [s3.heap.objs.size]).get? b = some o := fun b o e n => PySem.W.hideAll_get _ e (by simpa using n)
    have hidN : ∀ b o, (PySem.W.hideAll s.heap [s3.heap.objs.size]).get? b = some o → b ≠ s3.heap.objs.size ∧ s.heap.get? b = some o := fun b o e =>
      ⟨fun z => (by rw [z, PySem.W.hideAll_none [s3.heap.objs.size] (by simp)] at e; cases e), PySem.W.of_hideAll _ e⟩
    have Ix : Inv X pins st H { s with heap := PySem.W.hideAll s.heap [s3.heap.objs.size], toks := s.toks } :=
      Is.turned (it := s3.heap.objs.size) (fun b o n e => hid b o e n) HC (Nat.ne_of_gt I3.lt) (.inr I3.sz) (fun z c e => Nat.ne_of_lt (ltC z c e)) (fun p hp => Nat.ne_of_lt (Heap.lt_size (I3.pin p hp).1))
    have fr := fly_frames IY
    refine thr.fly pins H { s with heap := PySem.W.hideAll s.heap [s3.heap.objs.size], toks := s.toks } (.ref ea) _ Ix ⟨⟨ea, a0, PySem.W.hideAll B [s3.heap.objs.size], rfl, ⟨fun b o e => ?_, ?_, ?_, mk, oe, vs, T0, _, _, (oth ea (Ne.symm hTe)).trans he5, hc, hd, h1, ?_, hTe, selfT, Obj.data_mapFields hdT _, by simp [sz]⟩, hn, ?_, fun b o e => ?_, fun b o e n hb => ?_, fun b o e hb => ?_⟩, hos, hbare, ⟨fun b o e n hb _ => ?_, fun b o e n hb _ => ?_, fun b o e n _ => ?_, fun b o e _ => ?_, un4.tups, un4.frzs, un4.tbls⟩, hok_of hok4 fun b o u e q => ?_⟩
    · have nC : b ≠ s3.heap.objs.size := fun z => by rw [z, PySem.W.hideAll_none [s3.heap.objs.size] (by simp)] at e; cases e
      exact stay b o (PySem.W.of_hideAll _ e) nC
    · cases q : (PySem.W.hideAll B [s3.heap.objs.size]).get? ea with
      | none => rfl
      | some u => have := PySem.W.of_hideAll _ q; rw [k2] at this; cases this
    · refine frames_on k3 (fun b e => ?_) frK
      cases q : (PySem.W.hideAll B [s3.heap.objs.size]).get? b with
      | none => rfl
      | some u => have := PySem.W.of_hideAll _ q; rw [e] at this; cases this
    · cases q : (PySem.W.hideAll B [s3.heap.objs.size]).get? T0 with
      | none => rfl
      | some u => have := PySem.W.of_hideAll _ q; rw [hnT] at this; cases this
    · cases q : (PySem.W.hideAll s.heap [s3.heap.objs.size]).get? ea with
      | none => rfl
      | some u => have := (hidN _ _ q).2; rw [hnew] at this; cases this
    · obtain ⟨ob, q⟩ := hT b o e
      exact ⟨ob, PySem.W.hideAll_get _ q (by intro z; rw [List.mem_singleton.mp z, HC'] at e; cases e)⟩
    · obtain ⟨nC, e'⟩ := hidN b o e
      exact PySem.W.hideAll_get _ (hB b o e' n hb) (by simpa using nC)
    · obtain ⟨nC, e'⟩ := hidN b o e
      obtain ⟨o', q⟩ := hA b o e' hb
      exact ⟨o', PySem.W.hideAll_get _ q (by simpa using nC)⟩
    · obtain ⟨nC, e'⟩ := hidN b o e
      exact stay b o (hB b o e' n hb) nC
    · obtain ⟨nC, e'⟩ := hidN b o e
      obtain ⟨sl, q⟩ := un4.slot b o e' n hb (by simp)
      exact ⟨sl, frK b hb _ q⟩
    · obtain ⟨nC, e'⟩ := hidN b o e
      exact un4.free b o e' n (by simp)
    · obtain ⟨nC, e'⟩ := hidN b o e
      by_cases hb : b ∈ frs X.stack
      · obtain ⟨o1, q1, _, q2⟩ := fr b hb
        rw [e'] at q1; cases q1
        obtain ⟨sl, q⟩ := un4.slot b o e' q2 hb (by simp)
        exact ⟨_, frK b hb _ q⟩
      · obtain ⟨o', q⟩ := hA b o e' hb
        exact ⟨o', stay b o' q nC⟩
    · obtain ⟨ob, q1⟩ := hT b o e
      have z := k1 b ob q1
      rw [q] at z; cases z
      exact stay b _ q1 fun z => by rw [z, HC'] at e; cases e
  unfold PySem.passOn
  refine wpAny_bind (wpAny_field (s := { s4 with heap := h5 }) he5 hd h1 ?_)
  rw [if_neg (show ¬ ((Value.ref T0 == Value.none) = true) from by simp)]
  have step : wpAny (model X.prog X.w) X.A (setFlight (.ref ea) cenv.frame) (fun _ s6 => X.xe (.ref ea) s6) X.xe { s4 with heap := h5 } := by
    unfold setFlight
    refine wpAny_bind (wpAny_field (s := { s4 with heap := h5 }) he5 hd h1 ?_)
    rw [if_pos (show (Value.ref T0 != Value.none) = true from by simp)]
    exact wpAny_setField (s := { s4 with heap := h5 }) hT5 hdT sz (go _)
  first
    | exact wpAny_bind (wpAny_pure (wpAny_bind (wpAny_mono step (fun _ _ z => wpAny_throw z) fun _ _ z => z)))
    | exact wpAny_bind (wpAny_mono step (fun _ _ z => wpAny_throw z) fun _ _ z => z)
/-- what the block's exceptions are wanted for -/
def lcXe (X : Cx) (scope : Scope) (cl : List (Str × Addr)) (C : Addr) (RR : Result → Shared → Prop) : Value → Shared → Prop := notedBy (model X.prog X.w) X.A (compEnvC scope cl C X.env) fun e s' => RR (.error e) s'
theorem thr_blk {st' : St} {H' : Hp} {cls : Value} {u : Option (Value → Sem Unit)} {Qv : Value → Shared → Prop} {acc : Value} (I3 : Inv X pins st H3 s3) (hs : X.stack = X.env :: X.outer) (hf : X.env.frame = some X.env.locals) (hfp : ∀ b ∈ fp, FpOk X pins H3 b ∧ b < s3.heap.objs.size) (thr : Thr X st cls H') :
    Thr (blkE X N' scope cl s3.heap.objs.size s3 H3 fp (lcXe X scope cl s3.heap.objs.size (compPost (model X.prog X.w) X.A X.xe u Qv acc s3.heap.objs.size))) st' cls H' where
  fly := fun pY H s e s' IY F => by
    obtain ⟨ea, a0, B, rfl, fl, hn, hnew, hT, hB, hA⟩ := F.ex
    show wpAny _ X.A (noteFrame (.ref ea) X.env) _ _ s'
    have fl' : FlyM B (X.env :: X.outer) ea cls a0 s'.heap := by rw [← hs]; exact fl
    refine looks_m (by rw [← hs]; exact I3.ok.frames) hf fl' fun h4 held up => ?_
    obtain ⟨un4, hok4⟩ := fly_un F hB hT hA fl.1 held.1 up (fly_frames IY)
    have z := blk_exit (s4 := { s' with heap := h4 }) (what := "comprehension.variables-let-go") I3 hs hf hfp thr IY (by rw [hs]; exact held) hn hnew hT hB hA F.os F.bare un4 hok4
    cases u <;> exact z
  made := fun pY s ea h' args IY hx => by
    show wpAny _ X.A (noteFrame (.ref ea) X.env) _ _ { s with heap := h' }
    refine note_made (X := blkE X N' scope cl s3.heap.objs.size s3 H3 fp _) IY (env := X.env) (outer := X.outer) hs hf hx fun h4 t held up => ?_
    have hid : ∀ b o, s.heap.get? b = some o → b ∉ frs X.stack → (PySem.W.hideAll s.heap (frs X.stack)).get? b = some o := fun b o e n => PySem.W.hideAll_get _ e n
    have stay : ∀ b o, s.heap.get? b = some o → b ∉ frs X.stack → h4.get? b = some o := fun b o e n => held.1 b o (hid b o e n)
    have slots : ∀ b o, s.heap.get? b = some o → b ∈ frs X.stack → ∃ sl, h4.get? b = some { o with slots := sl } := fun b o e n => by
      obtain ⟨_, o', e', hd⟩ := IY.stack.mem n
      rw [e] at e'; cases e'
      exact up b o (hx.keeps b o e) hd
    have nst : ∀ b o, H' b = some o → b ∉ frs X.stack := fun b o e z => by rw [IY.stkFree b z] at e; cases e
    have hn : H' ea = none := by
      cases q : H' ea with
      | none => rfl
      | some u => obtain ⟨v, e⟩ := objOk_there (IY.hok _ _ q); rw [hx.new] at e; cases e
    have held' : Heap.HeldW (PySem.W.hideAll s.heap (frs X.stack)) X.stack ea cls (.ref t) X.env.locals h4 := Eq.mpr (congrArg (fun l => Heap.HeldW (PySem.W.hideAll s.heap (frs X.stack)) l ea cls (.ref t) X.env.locals h4) hs) held
    have z := blk_exit (s4 := { s with heap := h4 }) (what := "comprehension.variables-let-go") I3 hs hf hfp thr IY held' hn hx.new
      (fun b o e => by obtain ⟨v, q⟩ := objOk_there (IY.hok _ _ e); exact ⟨v, hid b v q (nst b o e)⟩) (fun b o e n hb => hid b o e hb) (fun b o e hb => ⟨o, hid b o e hb⟩) rfl IY.bare
      ⟨fun b o e n hb _ => stay b o e hb, fun b o e n hb _ => slots b o e hb, fun b o e n _ => n, fun b o e _ => by
        by_cases hb : b ∈ frs X.stack
        · obtain ⟨sl, q⟩ := slots b o e hb; exact ⟨_, q⟩
        · exact ⟨o, stay b o e hb⟩, fun _ _ e => e, fun _ _ _ e => e, fun b ps e => ⟨#[], by rw [e]; simp⟩⟩
      (hok_of IY.hok fun b o u e q => stay b u q (nst b o e))
    cases u <;> exact z
end
def lcLoopX (nx : Src) (n : Nat) (tg : D → Ev → Option Ev) (fi : Ev → M Bool) (fe : Ev → M D) : Nat → Nat → Ev → M Unit
  | 0, _, _ => bad
  | k + 1, i, ρ => fun σ => match nx.nx i σ with
    | none => .bad
    | some none => .ok () σ
    | some (some d) => match tg d ρ with
      | none => .bad
      | some ρ1 => bnd (nox (fi ρ1)) (fun c => if c = true then bnd (fe ρ1) fun y => bnd (oAppend (.ref n) [y]) fun _ => lcLoopX nx n tg fi fe k (i + 1) ρ1 else lcLoopX nx n tg fi fe k (i + 1) ρ1) σ
def lcKX (tg : D → Ev → Option Ev) (fi : Ev → M Bool) (fe : Ev → M D) (ρ : Ev) (nx : Src) : M D := fun σ =>
  bnd (lcLoopX nx σ.length tg fi fe 1001 0 ρ) (fun _ => ret (.ref σ.length)) (σ ++ [.lst []])
/-- [.. for ..] whose element may raise -/
def eLCX (src : Ev → M Src) (ix : List Nat) (tg : D → Ev → Option Ev) (fi : Ev → M Bool) (fe : Ev → M D) : Ev → M D := fun ρ => bnd (src ρ) (lcKX tg fi fe (blkEv ix ρ))
section
variable {T : Tb} {X : Cx}
theorem lc_coreX {E : XK} {elt iter tgt : Expr} {ifs : List Expr} {scope : Scope} {pos : Pos} {x : Str} {M' : List Str} {ix : List Nat} {tg : D → Ev → Option Ev} {fi : Ev → M Bool} {fe : Ev → M D}
    {pins : List (Addr × Obj)} {st : St} {H3 : Hp} {s3 : Shared} {h₁ : Heap} {t' : Nat} {m : Str → Option Value} {fp : List Addr} {it D0 : Addr} {tn : Nat → Heap → Prop} {J : It} {nx : Src} {μ3 : List Addr} {σ3 : Sto} {ρ : Ev} {n : Nat} {Q : VK}
    (hc : X.calm = true) (L : LcOk X x M' ix scope)
    (htg : ∀ cl C s₀ H₀ ex xe, FG T (blkE X (x :: M') scope cl C s₀ H₀ ex xe) tgt tg)
    (hif : ∀ cl C s₀ H₀ ex xe, FIf T (blkE X (x :: M') scope cl C s₀ H₀ ex xe) ifs fi)
    (helt : ∀ cl C s₀ H₀ ex xe, FE T (blkE X (x :: M') scope cl C s₀ H₀ ex xe) elt fe)
    (I3 : Inv X pins st H3 s3) (hfp : ∀ b ∈ fp, FpOk X pins H3 b ∧ b < s3.heap.objs.size) (hns : h₁.Ns s3.heap.objs.size m) (kp : ∀ b o, s3.heap.get? b = some o → h₁.get? b = some o)
    (TT : Turn X.prog X.w X.K tgt J fp it tn) (hst4 : tn 0 h₁) (so : SrcOk T μ3 H3 nx J) (hE : ERep T μ3 H3 ρ st) (r3 : Rel T μ3 H3 σ3) (hn : μ3[n]? = some D0)
    (p3 : Post T E (Rep T) μ3 H3 (bnd (lcLoopX nx n tg fi fe 1001 0 (blkEv ix ρ)) (fun _ => ret (.ref n)) σ3) Q) {RR : Result → Shared → Prop}
    (fin : ∀ (s6 : Shared) (H' : Hp) (m6 : Str → Option Value), s6.heap.Ns s3.heap.objs.size m6 → H' s3.heap.objs.size = none → Un (frs X.stack) fp H3 H' s3.heap s6.heap → s6.os = s3.os → HOk X.prog X.w H' s6.heap → AllBare s6.gens → Q (.ref D0) H' → RR (.ok .next) s6)
    (hthr : ∀ st' cls H', E cls none H' → Thr (blkE X (x :: M') scope (clOf X.env scope.names []) s3.heap.objs.size s3 H3 fp (lcXe X scope (clOf X.env scope.names []) s3.heap.objs.size RR)) st' cls H') :
    codeAny (model X.prog X.w) X.A (.compStart (.ListComp elt [⟨tgt, iter, ifs, 0⟩] scope pos) 0 (.ref it) (.ref D0) (compEnvC scope (clOf X.env scope.names []) s3.heap.objs.size X.env))
      RR { s3 with heap := h₁, toks := t' } := by
  have I40 := blk_start (h' := h₁) (t' := t') I3 L hfp hns kp
  let Y : Cx := blkE X (x :: M') scope (clOf X.env scope.names []) s3.heap.objs.size s3 H3 fp (lcXe X scope (clOf X.env scope.names []) s3.heap.objs.size RR)
  have I4 : Inv Y [] (blkSt ix st) H3 { s3 with heap := h₁, toks := t' } := inv_xe I40
  have stat : ∀ {H' : Hp}, (∀ b ∈ fp, H' b = none) → ∀ b ∈ fp, FpOk Y [] H' b := fun {H'} hn b hb => ⟨hn b hb, (I4.ok.exf b hb).1, I4.ok.exfs b hb, .inl hb, (I4.ok.exf b hb).2, fun p hp => absurd (show p ∈ ([] : List (Addr × Obj)) from hp) (by simp)⟩
  have loop : codeAny (model X.prog X.w) X.A (.compLoop (.ListComp elt [⟨tgt, iter, ifs, 0⟩] scope pos) 0 (.ref it) (.ref D0) Y.env) RR { s3 with heap := h₁, toks := t' } := by
    refine codeAny_loop rfl (fun k s' => ∃ i μ' H' σ' ρ' st', Inv Y [] st' H' s' ∧ tn i s'.heap ∧ (∀ b ∈ fp, H' b = none) ∧ Ext μ3 H3 μ' H' ∧ ERep T μ' H' ρ' st' ∧ Rel T μ' H' σ' ∧
      Post T E (Rep T) μ' H' (bnd (lcLoopX nx n tg fi fe k i ρ') (fun _ => ret (.ref n)) σ') Q) ?_ 1001 ⟨0, μ3, H3, σ3, blkEv ix ρ, blkSt ix st, I4, hst4, fun b hb => (hfp b hb).1.1, Ext.refl _ _, blk_rep ix hE, r3, p3⟩
    rintro k s' ⟨i, μ', H', σ', ρ', st', I', tn', fr', ex', hE', r', p'⟩
    show wpAny _ X.A ((compTurn (.ListComp elt [⟨tgt, iter, ifs, 0⟩] scope pos) 0 (.ref it) (.ref D0) Y.env).onRaise (fun x => do noteFrame x Y.env; theTreesLotGoes x)) _ _ s'
    refine wpAny_noted ?_
    rw [compTurn_list]
    show wpAny _ X.A _ _ Y.xe s'
    refine wpAny_bind (wpAny_standAt ?_)
    cases k with
    | zero => exact p'.elim
    | succ k =>
      have so' := so μ' H' σ' i ex' r'
      cases en : nx.nx i σ' with
      | none =>
        have e1 : lcLoopX nx n tg fi fe (k + 1) i ρ' σ' = .bad := by unfold lcLoopX; simp only [en]
        rw [bnd_congr (m' := bad) e1] at p'
        exact p'.elim
      | some od =>
        rw [en] at so'
        cases od with
        | none =>
          have e1 : lcLoopX nx n tg fi fe (k + 1) i ρ' σ' = .ok () σ' := by unfold lcLoopX; simp only [en]
          rw [bnd_congr (m' := ret ()) e1] at p'
          refine wpAny_bind (thn (TT.done Y rfl rfl rfl hc i [] s' st' H' Y.xe I' (stat fr') tn' so') fun r s6 ⟨er, I6⟩ => ?_)
          subst er
          refine wpAny_pure ?_
          obtain ⟨m6, hm6, _⟩ := I6.loc
          exact fin s6 H' m6 hm6 I6.free I6.base I6.os I6.hok I6.bare (Post.here p' r' (by rw [Rep]; exact ⟨_, rfl, ex'.get hn⟩))
        | some d =>
          refine wpAny_bind (thn (TT.item Y rfl rfl rfl hc i [] s' st' H' Y.xe I' (stat fr') tn' so'.1) fun r s6 ⟨u, er, h6⟩ => ?_)
          subst er
          refine wpAny_bind (thn h6 fun _ s7 ⟨xv, H7, I7, r7, y7, tn7, fr7⟩ => ?_)
          obtain ⟨eH, hd⟩ := so'.2 xv H7 y7
          subst eH
          cases et : tg d ρ' with
          | none =>
            have e1 : lcLoopX nx n tg fi fe (k + 1) i ρ' σ' = .bad := by unfold lcLoopX; simp only [en, et]
            rw [bnd_congr (m' := bad) e1] at p'
            exact p'.elim
          | some ρ1 =>
            have e1 : lcLoopX nx n tg fi fe (k + 1) i ρ' σ' = bnd (nox (fi ρ1)) (fun c => if c = true then bnd (fe ρ1) fun y => bnd (oAppend (.ref n) [y]) fun _ => lcLoopX nx n tg fi fe k (i + 1) ρ1 else lcLoopX nx n tg fi fe k (i + 1) ρ1) σ' := by
              conv => lhs; unfold lcLoopX
              simp only [en, et]
            rw [bnd_congr e1, bnd_assoc] at p'
            have I7' := I7.pinned (stat fr7) (TT.obj _ _ tn7)
            refine wpAny_bind (thn (htg _ _ _ _ _ _ _ s7 st' H7 xv u (fun st8 H8 => H8 = H7 ∧ ERep T μ' H7 ρ1 st8) I7' r7 ⟨μ', σ', ρ', d, ρ1, hE', r', hd, et, fun st8 hE8 => ⟨rfl, hE8⟩⟩) fun _ s8 ⟨st8, H8, I8, eH8, hE8⟩ => ?_)
            subst eH8
            refine wpAny_bind (thn (hif _ _ _ _ _ _ _ s8 st8 H8 (fun c H9 => ∃ μ9 σ9, Ext μ' H8 μ9 H9 ∧ Rel T μ9 H9 σ9 ∧ Post T E (Rep T) μ9 H9 (bnd (if c = true then bnd (fe ρ1) fun y => bnd (oAppend (.ref n) [y]) fun _ => lcLoopX nx n tg fi fe k (i + 1) ρ1 else lcLoopX nx n tg fi fe k (i + 1) ρ1) (fun _ => ret (.ref n)) σ9) Q) I8
              ⟨μ', ρ1, σ', hE8, r', p'.bind0 fun c σ9 μ9 c' H9 _ e9 r9 q9 p9 => by cases q9; exact ⟨μ9, σ9, e9, r9, p9⟩⟩) fun c s9 ⟨H9, I9, μ9, σ9, e9, r9, p9⟩ => ?_)
            have again : ∀ {s11 : Shared} {H11 : Hp} {μ11 : List Addr} {σ11 : Sto}, Inv Y ([] ++ pinsAt fp s7.heap) st8 H11 s11 → Ext μ' H8 μ11 H11 → Rel T μ11 H11 σ11 → Post T E (Rep T) μ11 H11 (bnd (lcLoopX nx n tg fi fe k (i + 1) ρ1) (fun _ => ret (.ref n)) σ11) Q →
                ∃ m, m < k + 1 ∧ ∃ i μ' H' σ' ρ' st', Inv Y [] st' H' s11 ∧ tn i s11.heap ∧ (∀ b ∈ fp, H' b = none) ∧ Ext μ3 H3 μ' H' ∧ ERep T μ' H' ρ' st' ∧ Rel T μ' H' σ' ∧ Post T E (Rep T) μ' H' (bnd (lcLoopX nx n tg fi fe m i ρ') (fun _ => ret (.ref n)) σ') Q := by
              intro s11 H11 μ11 σ11 I11 e11 r11 p11
              refine ⟨k, Nat.lt_succ_self _, i + 1, μ11, H11, σ11, ρ1, st8, I11.unpinned, TT.keep _ _ _ tn7 (fun b hb o e => (I11.pin (b, o) (List.mem_append_right _ (List.mem_append_right _ (mem_pinsAt hb e)))).1), fun b hb => ?_, ex'.trans e11, hE8.mono e11, r11, p11⟩
              obtain ⟨o, e, _⟩ := TT.obj _ _ tn7 b hb
              exact (I11.pin (b, o) (List.mem_append_right _ (List.mem_append_right _ (mem_pinsAt hb e)))).2.1
            cases c with
            | false =>
              rw [if_neg Bool.false_ne_true] at p9
              exact wpAny_pure ⟨rfl, again I9 e9 r9 p9⟩
            | true =>
              rw [if_pos rfl, bnd_assoc] at p9
              refine wpAny_bind (wpAny_bind (thn (helt _ _ _ _ _ _ _ s9 st8 H9 (fun v H10 => ∃ y μ10 σ10, Ext μ' H8 μ10 H10 ∧ Rel T μ10 H10 σ10 ∧ Rep T μ10 H10 y v ∧ Post T E (Rep T) μ10 H10 (bnd (oAppend (.ref n) [y]) (fun _ => bnd (lcLoopX nx n tg fi fe k (i + 1) ρ1) (fun _ => ret (.ref n))) σ10) Q) I9
                ⟨μ9, ρ1, σ9, hE8.mono e9, r9, (p9.bind fun y σ10 μ10 v H10 _ e10 r10 q10 p10 => ⟨y, μ10, σ10, e9.trans e10, r10, q10, by rw [bnd_assoc] at p10; exact p10⟩).mapE fun cls H' z => hthr st8 cls H' z⟩) fun w s10 ⟨v, H10, I10, rw10, y, μ10, σ10, e10, r10, q10, p10⟩ => ?_))
              have happ := app_rel (Q := fun _ H11 => ∃ μ11 σ11, Ext μ' H8 μ11 H11 ∧ Rel T μ11 H11 σ11 ∧ Post T E (Rep T) μ11 H11 (bnd (lcLoopX nx n tg fi fe k (i + 1) ρ1) (fun _ => ret (.ref n)) σ11) Q) r10 ((ex'.trans e10).get hn) q10
                (p10.bind fun _ σ11 μ11 v11 H11 _ e11 r11 q11 p11 => ⟨μ11, σ11, e10.trans e11, r11, p11⟩)
              refine wpAny_bind (thn (mt_append (X := Y) _ s10 st8 H10 (.ref D0) [v] (.ref D0) [w] _ I10 rfl (.cons rw10 .nil) happ) fun _ s11 ⟨v11, H11, I11, _, μ11, σ11, e11, r11, p11⟩ => ?_)
              exact wpAny_pure (wpAny_pure ⟨rfl, again I11 e11 r11 p11⟩)
  exact codeAny_compStart_list loop (TT.self X.A 0 _ _ _ hst4 loop)
theorem fe_lcX {elt iter tgt : Expr} {ifs : List Expr} {scope : Scope} {pos : Pos} {x : Str} {M' : List Str} {ix : List Nat} {src : Ev → M Src} {tg : D → Ev → Option Ev} {fi : Ev → M Bool} {fe : Ev → M D}
    (hst : X.stack = X.env :: X.outer) (hfr : X.env.frame = some X.env.locals) (hc : X.calm = true) (L : LcOk X x M' ix scope) (hsrc : FI T X tgt iter src)
    (htg : ∀ cl C s₀ H₀ ex xe, FG T (blkE X (x :: M') scope cl C s₀ H₀ ex xe) tgt tg)
    (hif : ∀ cl C s₀ H₀ ex xe, FIf T (blkE X (x :: M') scope cl C s₀ H₀ ex xe) ifs fi)
    (helt : ∀ cl C s₀ H₀ ex xe, FE T (blkE X (x :: M') scope cl C s₀ H₀ ex xe) elt fe)
    (hs : ∀ y, foldedSetIterable iter X.env y = pure y := by intro _; rfl) :
    FE T X (.ListComp elt [⟨tgt, iter, ifs, 0⟩] scope pos) (eLCX src ix tg fi fe) := by
  intro pins s st H Q I h
  obtain ⟨μ, ρ, σ, hE, hr, hp⟩ := h
  rw [eval_ListComp]
  refine wpAny_comprehension_free (use := none) rfl hs (closure_is X.env scope (clos_of I L)) L.kind (fun y hy e => ?_) ?_
  · have q := List.all_eq_true.mp L.names y hy
    rw [e] at q
    simp only [beq_self_eq_true, Bool.not_true, Bool.false_or] at q
    exact eq_of_beq q
  have h1 := hsrc pins s st H (fun J H2 => ∃ nx μ2 σ2, Ext μ H μ2 H2 ∧ Rel T μ2 H2 σ2 ∧ SrcOk T μ2 H2 nx J ∧ Post T (XE X st) (Rep T) μ2 H2 (bnd (lcLoopX nx σ2.length tg fi fe 1001 0 (blkEv ix ρ)) (fun _ => ret (.ref σ2.length)) (σ2 ++ [Ob.lst []])) Q) I
    ⟨μ, ρ, σ, hE, hr, hp.bind fun nx σ1 μ1 J H1 _ e1 r1 q1 p1 => ⟨nx, μ1, σ1, e1, r1, q1, p1⟩⟩
  refine thn h1 fun v s1 h2 => thn h2 fun itv s2 h3 => ?_
  obtain ⟨it, fp, tn, J, H2, rfl, I2, TT, st2, f2, nx, μ2, σ2, ex2, r2, so, p2⟩ := h3
  refine wpAny_newObj_type (wpAny_newFunctionEnv (nocell L) (by intro y hy; simp at hy) (fun h₁ hns₁ hsb₁ => ?_) L.kind)
  have I3 := I2.lnew (ys := []) (its := []) (t' := s2.toks) .nil (by simp)
  have fr2 : H2 s2.heap.objs.size = none := I2.hok.fresh (Nat.le_refl _)
  have r3 := r2.push (p := s2.heap.objs.size) (o := .lst []) (ob := .lst []) fr2 ⟨[], upd_same, RepL.nil⟩
  have ex3 : Ext μ2 H2 (μ2 ++ [s2.heap.objs.size]) (upd H2 s2.heap.objs.size (.lst [])) := ext_push fr2
  have hsz : s2.heap.objs.size < (s2.heap.push { cls := .type "list", data := .seq ([] : List Value).toArray }).objs.size := by rw [Heap.size_push]; exact Nat.lt_succ_self _
  have kp : ∀ b o, (s2.heap.push { cls := .type "list", data := .seq ([] : List Value).toArray }).get? b = some o → h₁.get? b = some o := fun b o e => hsb₁.extBut b o (Nat.ne_of_lt (Heap.lt_size e)) (Heap.get?_push_of_some _ e)
  have hfp : ∀ b ∈ fp, FpOk X pins (upd H2 s2.heap.objs.size (.lst [])) b ∧ b < (s2.heap.push { cls := .type "list", data := .seq ([] : List Value).toArray }).objs.size := fun b hb => by
    obtain ⟨o, e, _⟩ := TT.obj 0 _ st2 b hb
    have lt := Heap.lt_size e
    exact ⟨⟨by rw [upd_ne (Nat.ne_of_lt lt)]; exact (f2 b hb).1, (f2 b hb).2⟩, Nat.lt_trans lt hsz⟩
  refine lc_coreX (s3 := { s2 with heap := s2.heap.push { cls := .type "list", data := .seq ([] : List Value).toArray }, toks := s2.toks }) (n := σ2.length) (D0 := s2.heap.objs.size) hc L htg hif helt I3 hfp hns₁ kp TT (TT.keep 0 _ _ st2 fun b hb o e => kp b o (Heap.get?_push_of_some _ e))
    (fun μ H σ i ex r => so μ H σ i (ex3.trans ex) r) ((hE.mono ex2).mono ex3) r3 (by rw [← r2.len]; simp) (p2.mono ex3) (fun s6 H' m6 hm6 hC' hu0 hos hok6 hb6 hq => ⟨m6, hm6, fun h7 hs7 => ?_⟩) (fun st' cls H' z => thr_blk I3 hst hfr hfp z)
  have hu := un_same hu0 hs7 (Nat.le_refl _)
  have I7 := L2.Inv.call' (s' := { s6 with heap := h7 }) (ch := fp) I3 hos hu (hok_same hok6 hs7 hC') hb6 (fun b hb => ⟨(hfp b hb).1.2.2.2.1, (hfp b hb).1.2.1, (hfp b hb).1.2.2.2.2.1, (hfp b hb).1.2.2.2.2.2⟩)
  exact ⟨.ref s2.heap.objs.size, H', I7, rfl, hq⟩
end
/-! what such a comprehension comes to -/
def allO {α β : Type} (q : α → Option β) : List α → Option (List β)
  | [] => some []
  | d :: r => match q d with
    | none => none
    | some y => match allO q r with
      | none => none
      | some ys => some (y :: ys)
section
variable {ρ : Ev} {σ : Sto}
theorem lcx_go {fe : Ev → M D} {ds : List D} {rest : Ev} (q : D → Option D) (x : Xn) (step : ∀ d ∈ ds, ∀ j, fe (some d :: rest) (σ ++ j) = (match q d with | some y => .ok y (σ ++ j) | none => .ex x (σ ++ j))) (hl : ds.length ≤ 1000) :
    ∀ (k i : Nat) (v : Option D) (ys : List D), ds.length < i + k → i ≤ ds.length → ys.length ≤ i →
      (match allO q (ds.drop i) with
        | some zs => lcLoopX (.seq ds) σ.length (tgN 0) bTrue fe k i (v :: rest) (σ ++ [.lst ys]) = .ok () (σ ++ [.lst (ys ++ zs)])
        | none => ∃ zs, lcLoopX (.seq ds) σ.length (tgN 0) bTrue fe k i (v :: rest) (σ ++ [.lst ys]) = .ex x (σ ++ [.lst zs])) := by
  intro k
  induction k with
  | zero => intro i v ys h1 h2 _; exact absurd h1 (by omega)
  | succ k ih =>
    intro i v ys h1 h2 h3
    cases e : ds[i]? with
    | none =>
      have hi : ds.length ≤ i := List.getElem?_eq_none_iff.mp e
      rw [List.drop_eq_nil_of_le hi]
      show lcLoopX _ _ _ _ _ (k + 1) i _ _ = _
      rw [lcLoopX]
      show (match some ds[i]? with | none => _ | some none => _ | some (some d) => _) = _
      rw [e]; simp
    | some d =>
      obtain ⟨hi, ed⟩ := List.getElem?_eq_some_iff.mp e
      have hd : ds.drop i = d :: ds.drop (i + 1) := by rw [← ed]; exact List.drop_eq_getElem_cons hi
      have hs := step d (by rw [← ed]; exact List.getElem_mem hi) [.lst ys]
      have e1 : lcLoopX (.seq ds) σ.length (tgN 0) bTrue fe (k + 1) i (v :: rest) (σ ++ [.lst ys]) = (fe (some d :: rest) (σ ++ [.lst ys])).bind fun y => bnd (oAppend (.ref σ.length) [y]) fun _ => lcLoopX (.seq ds) σ.length (tgN 0) bTrue fe k (i + 1) (some d :: rest) := by
        rw [lcLoopX]
        show (match some ds[i]? with | none => _ | some none => _ | some (some d) => _) = _
        rw [e]
        show bnd (nox (bTrue (some d :: rest))) _ _ = _
        rw [bnd_ap, nox_ok (show bTrue (some d :: rest) (σ ++ [.lst ys]) = .ok true (σ ++ [.lst ys]) from rfl), bind_ok, if_pos rfl, bnd_ap]
        rfl
      rw [hd]
      unfold allO
      cases eq : q d with
      | none =>
        rw [eq] at hs
        exact ⟨ys, by rw [e1, hs]; rfl⟩
      | some y =>
        rw [eq] at hs
        have hi2 := ih (i + 1) (some d) (ys ++ [y]) (by omega) (by omega) (by simp; omega)
        have e2 : lcLoopX (.seq ds) σ.length (tgN 0) bTrue fe (k + 1) i (v :: rest) (σ ++ [.lst ys]) = lcLoopX (.seq ds) σ.length (tgN 0) bTrue fe k (i + 1) (some d :: rest) (σ ++ [.lst (ys ++ [y])]) := by
          rw [e1, hs, bind_ok, bnd_ap, append_end (by omega), bind_ok]
        cases ea : allO q (ds.drop (i + 1)) with
        | none => rw [ea] at hi2; obtain ⟨zs, hz⟩ := hi2; exact ⟨zs, by rw [e2, hz]⟩
        | some zs => rw [ea] at hi2; dsimp only; rw [e2, hi2]; simp
theorem allO_mem {α β : Type} {q : α → Option β} : ∀ {l : List α} {ys : List β}, allO q l = some ys → ∀ y ∈ ys, ∃ d ∈ l, q d = some y
  | [], ys, h, y, hy => by cases h; cases hy
  | d :: r, ys, h, y, hy => by
    unfold allO at h
    cases eq : q d with
    | none => rw [eq] at h; cases h
    | some z =>
      rw [eq] at h
      cases ea : allO q r with
      | none => rw [ea] at h; cases h
      | some zs =>
        rw [ea] at h; cases h
        rcases List.mem_cons.mp hy with rfl | hy
        · exact ⟨d, List.mem_cons_self, eq⟩
        · obtain ⟨d', h1, h2⟩ := allO_mem ea y hy; exact ⟨d', List.mem_cons_of_mem _ h1, h2⟩
theorem lcx_map {src : Ev → M Src} {ix : List Nat} {fe : Ev → M D} {ds : List D} (q : D → Option D) (x : Xn) (hs : src ρ σ = .ok (.seq ds) σ) (hl : ds.length ≤ 1000)
    (step : ∀ d ∈ ds, ∀ j, fe (some d :: (ix.map fun i => (ρ[i]?).getD none)) (σ ++ j) = (match q d with | some y => .ok y (σ ++ j) | none => .ex x (σ ++ j))) (hc : ∀ d ∈ ds, ∀ y, q d = some y → cl y = true) :
    eFrz (eLCX src ix (tgN 0) bTrue fe) ρ σ = (match allO q ds with | some zs => .ok (.lst zs) σ | none => .ex x σ) := by
  show frzO σ (eLCX src ix (tgN 0) bTrue fe ρ σ) = _
  have e0 : eLCX src ix (tgN 0) bTrue fe ρ σ = (lcLoopX (.seq ds) σ.length (tgN 0) bTrue fe 1001 0 (none :: (ix.map fun i => (ρ[i]?).getD none)) (σ ++ [.lst []])).bind (fun _ => ret (.ref σ.length)) := by
    show bnd (src ρ) (lcKX (tgN 0) bTrue fe (blkEv ix ρ)) σ = _
    rw [bnd_ap, hs, bind_ok]
    rfl
  have g := lcx_go (σ := σ) q x step hl 1001 0 none [] (by omega) (by omega) (by simp)
  rw [List.drop_zero] at g
  cases ea : allO q ds with
  | none =>
    rw [ea] at g
    obtain ⟨zs, g⟩ := g
    rw [e0, g, bind_ex]
    unfold frzO; dsimp only
    rw [if_pos (by simp)]
  | some zs =>
    rw [ea] at g
    rw [e0, g, bind_ok]
    have := frzO_lst (σ := σ) (j := []) (j' := []) (xs := zs) (clL_all fun d hd => by obtain ⟨d', h1, h2⟩ := allO_mem ea d hd; exact hc d' h1 d h2)
    simpa using this
end
end L4

/-! x.replace(y, z, 1): the two texts must be unlike things, so a token must have been taken ahead: a test against a written number does. -/
namespace L4
open PySem PySem.Spec PyProof.Rows L2 Builtin Builtin.Str
def rep1 (x y z : Str) : Str := if ((occurrences x y 0 x.length 1).isEmpty || (y.length == 0 && z.length == 0)) = true then x else glued z (partsBetween x (occurrences x y 0 x.length 1) y.length)
theorem gives_rep1 (x y z : Str) (t g h k : Tok) (h0 : (g == 0 || h == 0) = false) (hgh : (g == h) = false) (hyz : (y == z) = false) (hl : tooLong (x.length + (occurrences x y 0 x.length 1).length * z.length) = false) :
    Gives («str.replace» ⟨[.str x t, .str y g, .str z h, .int 1 k], []⟩) (if ((occurrences x y 0 x.length 1).isEmpty || (y.length == 0 && z.length == 0)) = true then .val (.str x t) else .str (glued z (partsBetween x (occurrences x y 0 x.length 1) y.length))) := by
  show Gives (if ((occurrences x y 0 x.length 1).isEmpty || (y.length == 0 && z.length == 0)) = true then (PySem.rule "str.replace.nothing" >>= fun _ => PySem.ret (.str x t)) else
    (isSame (.str y g) (.str z h) >>= fun c => if c = true then (PySem.rule "str.replace.old-is-new" >>= fun _ => PySem.ret (.str x t)) else
      if tooLong (x.length + (occurrences x y 0 x.length 1).length * z.length) = true then unsupported "str.replace:memory" else retStr (glued z (partsBetween x (occurrences x y 0 x.length 1) y.length)))) _
  cases hc : ((occurrences x y 0 x.length 1).isEmpty || (y.length == 0 && z.length == 0))
  · rw [isSame_str_other y z g h h0 hgh hyz, hl]; exact .of_eq rfl
  · exact .rule (.of_eq rfl)
theorem test_tok {M : Model} {A : Around} {env : Env} {l : Expr} {i : Int} {j : Nat} {p2 p3 : Pos} {w : Sem Value} {Q : Bool → Shared → Prop} {E : Value → Shared → Prop} {s : Shared} (h : wpAny M A (PySem.isTrue (.Compare l [.Eq] [.Constant (.int i) j p2] p3) env w) Q E s) :
    wpAny M A (PySem.isTrue (.Compare l [.Eq] [.Constant (.int i) j p2] p3) env w) (fun b s' => 1 ≤ s'.toks ∧ Q b s') E s := by
  intro Γ p hΓ
  have k := h Γ p hΓ
  unfold PySem.isTrue at k ⊢
  rw [Sem.wp_bind'] at k ⊢
  refine Sem.wp_mono M Γ _ (fun a p1 s1 k1 => ?_) (fun _ _ _ z => z) _ _ k
  have e1 : markedEach [CmpOp.Eq] [.Constant (.int i) j p2] (evalEach [.Constant (.int i) j p2] env) = [eval (.Constant (.int i) j p2) env] := by
    show [markedBehindIn _ _ _] = _
    rw [markedBehindIn_of_false (by rfl)]
  rw [e1] at k1 ⊢
  unfold testChain at k1 ⊢
  rw [Sem.wp_bind', Sem.wp_holding] at k1 ⊢
  have e2 : eval (.Constant (.int i) j p2) env = Sem.fresh fun t => Sem.pure (.int i t) := rfl
  rw [e2] at k1 ⊢
  rw [Sem.wp_fresh, Sem.wp_pure] at k1 ⊢
  exact Sem.wp_mono M Γ _ (fun _ _ _ q => q) (fun _ _ _ q => q.2) _ _ (Sem.wp_toks M Γ 1 _ _ _ _ _ (Nat.succ_le_succ (Nat.zero_le _)) k1)
def FE1 (T : Tb) (X : Cx) (e : Expr) (f : Ev → M D) : Prop :=
  ∀ (pins : List (Addr × Obj)) (s : Shared) (st : St) (H : Hp) (Q : VK), Inv X pins st H s → 1 ≤ s.toks → tF T X f st H Q → wpAny (model X.prog X.w) X.A (eval e X.env) (EP X pins st Q) X.xe s
noncomputable def rpOk (x y z : Str) : Bool := hide (!(y == z) && (decide (x.length + (x.length + 1) * z.length ≤ 100000) && decide ((rep1 x y z).length ≤ 100000)))
noncomputable def rpK (y z : Str) (d : D) : M D := fun σ => match d with
  | .str x => if rpOk x y z = true then .ok (.str (rep1 x y z)) σ else .bad
  | _ => .bad
noncomputable def eRep1 (y z : Str) (f : Ev → M D) : Ev → M D := fun ρ => bnd (f ρ) (rpK y z)
section
variable {T : Tb} {X : Cx} {a b e o : Expr} {fa fb f : Ev → M D} {pos apos cpos : Pos}
theorem fe_op1 {op : Operator} {r : R2} {g : D → D → M D} (ho : OpR X (binaryOp op) r) (hs : SndOp T r g) (ha : FE1 T X a fa) (hb : FE T X b fb) : FE1 T X (.BinOp a op b pos) (eBin g fa fb) := by
  intro pins s st H Q I tk h
  exact wpAny_BinOp (thn (ha pins s st H _ I tk (two hs h)) fun v s1 ⟨x, H1, I1, r1, q1⟩ => thn (hb pins s1 st H1 _ I1 q1) fun u s2 ⟨y, H2, I2, r2, q2⟩ => ho pins s2 st H2 x y v u Q I2 r1 r2 q2)
theorem fe_rep1 {y z : Str} {j1 j2 j3 : Nat} {p1 p2 p3 : Pos} (ho : FE T X o f)
    (hbase : attributeBase o "replace" X.env (eval o X.env) = eval o X.env := by rfl) (hline : (apos.endLine == cpos.line) = true := by rfl) :
    FE1 T X (.Call (.Attribute o "replace" apos) [.Constant (.str y) j1 p1, .Constant (.str z) j2 p2, .Constant (.int 1) j3 p3] [] cpos) (eRep1 y z f) := by
  intro pins s st H Q I tk h
  obtain ⟨μ, ρ, σ, hE, hr, hp⟩ := h
  have h1 := ho pins s st H (fun v H1 => ∃ x, v = .str x ∧ rpOk x y z = true ∧ Q (.str (rep1 x y z)) H1) I ⟨μ, ρ, σ, hE, hr, hp.bind fun d σ1 μ1 v H1 _ e1 r1 q1 p1 => by
    cases d with
    | str x =>
      unfold rpK at p1
      dsimp only at p1
      by_cases hc : rpOk x y z = true
      · rw [if_pos hc] at p1; exact ⟨x, str_of q1, hc, Post.here p1 r1 (by rw [Rep])⟩
      · rw [if_neg hc] at p1; exact p1.elim
    | _ => exact p1.elim⟩
  refine wpAny_Call_method_late hbase (by rfl) hline rfl (wpAny_mono (wpAny_toks_of tk h1) (fun v s1 ⟨tk1, x1, H1, I1, r1, x, ex, hc, q1⟩ => ?_) fun _ _ z => z.2)
  subst ex
  obtain ⟨t, rfl⟩ := r1
  simp only [rpOk, hide_eq, Bool.and_eq_true, Bool.not_eq_true', decide_eq_true_eq] at hc
  obtain ⟨hyz, hl, hl2⟩ := hc
  refine ⟨"str", "str.replace", F.plainAttrs_str, F.slot_str_replace, F.type_str_replace, typeIs_str _ _ _, (fun _ e => nomatch e), ?_⟩
  refine Calls.callWith_builtin rfl (Calls.evalArgs_plain ?_)
  show wpAny _ _ (spliced [(false, eval (.Constant (.str y) j1 p1) X.env), (false, eval (.Constant (.str z) j2 p2) X.env), (false, eval (.Constant (.int 1) j3 p3) X.env)]) _ _ s1
  refine Calls.spliced_cons (wpAny_Constant_str (k := j1) (pos := p1) ?_)
  refine Calls.spliced_cons (wpAny_Constant_str (k := j2) (pos := p2) ?_)
  refine Calls.spliced_cons (wpAny_Constant_int (k := j3) (pos := p3) ?_)
  refine wpAny_pure ?_
  have ol := StrLaws.occ_length_le x y 0 x.length 1
  have hm : (occurrences x y 0 x.length 1).length * z.length ≤ (x.length + 1) * z.length := Nat.mul_le_mul_right _ (Nat.le_trans ol (by omega))
  have nl : tooLong (x.length + (occurrences x y 0 x.length 1).length * z.length) = false := by
    unfold tooLong sizeLine
    exact decide_eq_false (by omega)
  have n0 : ((s1.toks == 0 || s1.toks + 1 == 0) : Bool) = false := by
    simp; omega
  have n1 : (s1.toks == s1.toks + 1) = false := by simp
  refine call_gives F.slot_str_replace (typeIs_str _ _ _) F.entry_str_replace (F.args_str_replace_4 _ _ _ _) (gives_rep1 x y z t s1.toks (s1.toks + 1) _ n0 n1 hyz nl) ?_
  unfold rep1 at q1 hl2
  cases hc : ((occurrences x y 0 x.length 1).isEmpty || (y.length == 0 && z.length == 0))
  · rw [hc] at q1 hl2
    simp only [Bool.false_eq_true, if_false] at q1 hl2 ⊢
    exact ⟨str_small hl2, .str _, H1, I1.tok _, ⟨_, rfl⟩, q1⟩
  · rw [hc] at q1
    simp only [if_true] at q1 ⊢
    exact ⟨.str x, H1, I1.tok _, ⟨_, rfl⟩, q1⟩
/-- if l == 4: return e -/
theorem fs_ifT {l : Expr} {i : Int} {j : Nat} {p2 p3 rp : Pos} {tc : Ev → M Bool} (hc : FT T X (.Compare l [.Eq] [.Constant (.int i) j p2] p3) tc) (he : FE1 T X e f) :
    FS T X (.If (.Compare l [.Eq] [.Constant (.int i) j p2] p3) [.Return (some e) rp] [] pos) (sIf tc (sRet f) sNil) := by
  intro pins s st H D I hw
  obtain ⟨μ, ρ, σ, hE, hr, hp⟩ := hw
  refine wpAny_If (thn (test_tok (hc pins s st H (fun b H1 => if b = true then tS T X (sRet f) D st H1 else D.nx st H1) I ⟨μ, ρ, σ, hE, hr, hp.xs hE fun c σ1 μ1 v H1 _ e1 r1 q1 p1 => ?_⟩)) fun d s1 ⟨tk, H1, I1, q1⟩ => ?_)
  · cases q1
    cases c with
    | true => unfold ifK at p1; rw [if_pos rfl] at p1 ⊢; exact ⟨μ1, ρ, σ1, hE.mono e1, r1, p1⟩
    | false => unfold ifK at p1; rw [if_neg Bool.false_ne_true] at p1 ⊢; exact Post.here (g := Gl2.nx st) p1 r1 (hE.mono e1)
  · cases d with
    | true =>
      rw [if_pos rfl] at q1
      obtain ⟨μ1, ρ1, σ1, hE1, r1, p1⟩ := q1
      refine wpAny_execs_cons (wpAny_Return_some (thn (he pins s1 st H1 (fun v H2 => D.rt v H2) I1 tk ⟨μ1, ρ1, σ1, hE1, r1, p1.xs hE1 fun d σ2 μ2 v H2 _ e2 r2 q2 p2 => Post.here (g := Gl2.rt v) p2 r2 q2⟩) fun v s2 ⟨x, H2, I2, rx, q2⟩ => ⟨x, st, H2, I2, rx, q2⟩))
    | false =>
      rw [if_neg Bool.false_ne_true] at q1
      exact wpAny_execs_nil ⟨st, H1, I1, q1⟩
end
section
variable {ρ : Ev} {σ : Sto}
theorem rpK_ap {y z x : Str} (h : rpOk x y z = true) : rpK y z (.str x) σ = .ok (.str (rep1 x y z)) σ := by unfold rpK; dsimp only; rw [if_pos h]
@[simp] theorem eRep1_ap (y z : Str) (f : Ev → M D) : eRep1 y z f ρ σ = (f ρ σ).bind (rpK y z) := nr rfl
end
end L4

/-! slices of texts; a text so many times -/
namespace L4
open PySem PySem.Spec PyProof.Rows L2
def rSlS : V → Option Int → Option Int → Hp → VK → Prop := fun x lo hi H Q => ∃ z, x = .str z ∧ z.length ≤ sizeLine ∧ Q (.str (Txt.slice z lo hi)) H
section
variable {T : Tb} {X : Cx}
theorem sl_str : SlR X rSlS := by
  intro pins s st H x v vl vu lo hi sl Q I rx hs pl pu h
  obtain ⟨z, rfl, hz, q⟩ := h
  obtain ⟨t, rfl⟩ := rx
  have go : ∀ (l u : Option (Int × Tok)), s.heap.IsSlice sl l u none → l.map (·.1) = lo → u.map (·.1) = hi → wpAny (model X.prog X.w) X.A (getItem (.str z t) (.ref sl)) (EP X pins st Q) X.xe s := fun l u hs el eu => by
    refine wpAny_getItem_str_slice (l := l) (u := u) (st := none) hs rfl ?_
    subst el; subst eu
    exact post_val_or_str ⟨Nat.le_trans (Txt.slice_le z _ _) hz, fun t' k => ⟨.str _, H, I.tok _, ⟨_, rfl⟩, q⟩⟩
  refine ⟨"str", _, F.slot_str_getitem.lookup, typeIs_str _ _ _, ?_⟩
  cases pl with
  | none => cases pu with
    | none => exact go none none hs rfl rfl
    | int j tj => exact go none (some (j, tj)) hs rfl rfl
  | int i ti => cases pu with
    | none => exact go (some (i, ti)) none hs rfl rfl
    | int j tj => exact go (some (i, ti)) (some (j, tj)) hs rfl rfl
def cutT (x : D) (lo hi : Option Int) : M D := fun σ => match x with
  | .str z => if z.length ≤ 100000 then .ok (.str (Txt.slice z lo hi)) σ else .bad
  | _ => .bad
def st1K (x : D) (hi : M (Option Int)) (lo : Option Int) : M D := bnd hi (cutT x lo)
def st0K (lo hi : M (Option Int)) (x : D) : M D := bnd lo (st1K x hi)
/-- t[lo:hi] of a text -/
def eSlT (f : Ev → M D) (lo hi : PF) : Ev → M D := fun ρ => bnd (f ρ) (st0K (ePart lo ρ) (ePart hi ρ))
theorem fe_sliceT {e : Expr} {lo hi : Option Expr} {f : Ev → M D} {pl ph : PF} {pos p2 : Pos} (he : FE T X e f) (hl : FO T X lo pl) (hh : FO T X hi ph) : FE T X (.Subscript e (.Slice lo hi none p2) pos) (eSlT f pl ph) := by
  intro pins s st H Q I h
  refine pe_slice sl_str he hl hh pins s st H Q I ?_
  obtain ⟨μ, ρ, σ, hE, hr, hp⟩ := h
  refine ⟨μ, ρ, σ, hE, hr, hp.bind fun d σ1 μ1 v H1 _ e1 r1 q1 p1 => ⟨μ1, ρ, σ1, hE.mono e1, r1, p1.bind fun l σ2 μ2 l' H2 _ e2 r2 q2 p2 => ⟨μ2, ρ, σ2, (hE.mono e1).mono e2, r2, p2.bind fun u σ3 μ3 u' H3 _ e3 r3 q3 p3 => ?_⟩⟩⟩
  have q2' : l' = l := q2
  have q3' : u' = u := q3
  subst q2'; subst q3'
  cases d with
  | str z =>
    unfold cutT at p3
    dsimp only at p3
    by_cases hz : z.length ≤ 100000
    · rw [if_pos hz] at p3
      exact ⟨z, str_of q1, str_small hz, Post.here p3 r3 (by rw [Rep])⟩
    · rw [if_neg hz] at p3; exact p3.elim
  | _ => exact p3.elim
/-! x * n -/
def rMulS : R2 := fun x y H Q => ∃ z n, x = .str z ∧ y = .int n ∧ z.length ≤ 16 ∧ n ≤ 1000 ∧ 0 ≤ n ∧ Q (.str (Txt.mul z n)) H
theorem op_mulS : OpR X (binaryOp .Mult) rMulS := by
  intro pins s st H x y v u Q I rx ry h
  obtain ⟨z, n, rfl, rfl, h1, h2, h3, q⟩ := h
  obtain ⟨t, rfl⟩ := rx
  obtain ⟨t', rfl⟩ := ry
  exact SB.mul (mulOk_of 16 1048576 (by omega) (by omega) (by omega) (by decide) (by decide)) fun t2 k => ⟨.str _, H, I.tok _, ⟨_, rfl⟩, q⟩
def oMulS (x y : D) : M D := fun σ => match x, y with
  | .str z, .int n => if z.length ≤ 16 ∧ n ≤ 1000 ∧ 0 ≤ n then .ok (.str (Txt.mul z n)) σ else .bad
  | _, _ => .bad
theorem snd_mulS : SndOp T rMulS oMulS := by
  intro E μ H σ x y v u Q r p q h
  cases x with
  | str z =>
    cases y with
    | int n =>
      unfold oMulS at h
      dsimp only at h
      by_cases hc : z.length ≤ 16 ∧ n ≤ 1000 ∧ 0 ≤ n
      · rw [if_pos hc] at h
        exact ⟨z, n, str_of p, int_of q, hc.1, hc.2.1, hc.2.2, Post.here h r (by rw [Rep])⟩
      · rw [if_neg hc] at h; exact h.elim
    | _ => exact h.elim
  | _ => exact h.elim
end
section
variable {ρ : Ev} {σ : Sto}
@[simp] theorem eSlT_ap (f : Ev → M D) (lo hi : PF) : eSlT f lo hi ρ σ = (f ρ σ).bind (st0K (ePart lo ρ) (ePart hi ρ)) := nr rfl
@[simp] theorem st0K_ap (lo hi : M (Option Int)) (x : D) : st0K lo hi x σ = (lo σ).bind (st1K x hi) := nr rfl
@[simp] theorem st1K_ap (hi : M (Option Int)) (x : D) (lo : Option Int) : st1K x hi lo σ = (hi σ).bind (cutT x lo) := nr rfl
theorem cutT_ap {z : Str} {lo hi : Option Int} (h : z.length ≤ 100000) : cutT (.str z) lo hi σ = .ok (.str (Txt.slice z lo hi)) σ := by unfold cutT; dsimp only; rw [if_pos h]
end
end L4

set_option maxHeartbeats 0
namespace K62
open PySem PySem.Spec PyProof.Rows L2 L4

def top (i : Nat) : Stmt := PySem.Challenge.pw_sidebook_k62_texts_refused.main.body.getD i (.Pass ⟨0, 0, 0, 0⟩)

structure Txt (K : PySem.W.Frag) (mg : Str → Option Value) (ca : Nat → Addr) : Prop where
  f__law_cell_at : HasFn K mg "_law_cell_at" (top 41) ["_law_script", "_law_k"]
  f__law_share : HasFn K mg "_law_share" (top 44) ["_law_number_here"]
  f__law_mixed : HasFn K mg "_law_mixed" (top 42) ["_law_cell", "_law_k"]
  f__law_amount : HasFn K mg "_law_amount" (top 43) ["_law_number_here"]
  f__law_tie : HasFn K mg "_law_tie" (top 45) ["_law_cell", "_law_k", "_law_words"]
  f__law_ties : HasFn K mg "_law_ties" (top 46) ["_law_cell"]
  f__law_stand : HasFn K mg "_law_stand" (top 47) ["_law_number_here", "_law_cell"]
  f__law_changed : HasFn K mg "_law_changed" (top 50) ["_law_text_here", "_law_cell"]
  f__law_text : HasFn K mg "_law_text" (top 48) ["_law_one"]
  f__law_begun : HasFn K mg "_law_begun" (top 49) ["_law_cell", "_law_one"]
  f__law_number : HasFn K mg "_law_number" (top 51) ["_law_word"]
  f__law_stand_of : HasFn K mg "_law_stand_of" (top 52) ["_law_words"]
  f__law_thing_of : HasFn K mg "_law_thing_of" (top 53) ["_law_words"]
  f_is_number_text : HasFn K mg "is_number_text" (top 32) ["thing"]
  f_read_number : HasFn K mg "read_number" (top 33) ["text"]
  f_read_numbers : HasFn K mg "read_numbers" (top 34) ["texts", "count"]
  f_split_at : HasFn K mg "split_at" (top 35) ["text", "sign"]
  f_read_tie : HasFn K mg "read_tie" (top 36) ["text"]
  f_is_whole : HasFn K mg "is_whole" (top 10) ["thing"]
  f_is_between : HasFn K mg "is_between" (top 11) ["thing", "least", "most"]
  f_is_day : HasFn K mg "is_day" (top 14) ["thing"]
  f_is_word : HasFn K mg "is_word" (top 13) ["thing"]
  f_is_amount : HasFn K mg "is_amount" (top 16) ["thing"]
  f_is_side : HasFn K mg "is_side" (top 12) ["thing"]
  f_is_tie : HasFn K mg "is_tie" (top 21) ["thing"]
  f_are_ties : HasFn K mg "are_ties" (top 23) ["thing"]
  f_are_shares : HasFn K mg "are_shares" (top 22) ["thing"]
  f_is_number : HasFn K mg "is_number" (top 15) ["thing"]
  f_is_stand : HasFn K mg "is_stand" (top 24) ["thing"]
  f_stand : HasFnD K mg "stand" (top 25) ["number", "shares", "ties"] [.none]
  f_read_stand : HasFn K mg "read_stand" (top 37) ["text"]
  f_read_parts : HasFn K mg "read_parts" (top 38) ["parts"]
  f_is_pot : HasFn K mg "is_pot" (top 17) ["thing"]
  f_is_of_a_side : HasFn K mg "is_of_a_side" (top 27) ["thing"]
  f_is_thing : HasFn K mg "is_thing" (top 28) ["thing"]
  f_read_thing : HasFn K mg "read_thing" (top 39) ["text"]
  f__law_told : HasFn K mg "_law_told" (top 54) ["_law_thing", "_law_text_here"]
  f__law_refused : HasFn K mg "_law_refused" (top 55) ["_law_word"]
  f_law : HasFn K mg "law" (top 56) ["_law_script"]
  n_all : mg "all" = none
  n_bool : mg "bool" = none
  n_int : mg "int" = none
  n_isinstance : mg "isinstance" = none
  n_len : mg "len" = none
  n_max : mg "max" = none
  n_range : mg "range" = none
  n_set : mg "set" = none
  n_str : mg "str" = none
  n_tuple : mg "tuple" = none
  c_FIGURES : ∃ t, mg "FIGURES" = some (.str "0123456789" t)
  c_MOST_AMOUNT : ∃ t, mg "MOST_AMOUNT" = some (.int 1000000000000 t)
  c_MOST_DAY : ∃ t, mg "MOST_DAY" = some (.int 1000000 t)
  c_MOST_FIGURES : ∃ t, mg "MOST_FIGURES" = some (.int 30 t)
  c_MOST_NUMBER : ∃ t, mg "MOST_NUMBER" = some (.int 1000000 t)
  c_MOST_POT : ∃ t, mg "MOST_POT" = some (.int 2 t)
  c_MOST_SHARE : ∃ t, mg "MOST_SHARE" = some (.int 2000000000000 t)
  c_MOST_TIES : ∃ t, mg "MOST_TIES" = some (.int 6 t)
  c_MOST_WORD : ∃ t, mg "MOST_WORD" = some (.int 59 t)
  m_BookError : mg "BookError" = some (.ref (ca 0))
  x_BookError : PySem.W.excIn K (ca 0) veB "ValueError.__new__" = true
  m_NoStand : mg "NoStand" = some (.ref (ca 1))
  x_NoStand : PySem.W.excIn K (ca 1) veB "ValueError.__new__" = true
  m_NoText : mg "NoText" = some (.ref (ca 2))
  x_NoText : PySem.W.excIn K (ca 2) veB "ValueError.__new__" = true
  e_BookError_NoStand : PySem.W.exmOne K (.ref (ca 0)) (.ref (ca 1)) = some false
  e_BookError_NoText : PySem.W.exmOne K (.ref (ca 0)) (.ref (ca 2)) = some false
  e_NoStand_NoStand : PySem.W.exmOne K (.ref (ca 1)) (.ref (ca 1)) = some true
  e_NoStand_NoText : PySem.W.exmOne K (.ref (ca 1)) (.ref (ca 2)) = some false
  e_NoText_NoStand : PySem.W.exmOne K (.ref (ca 2)) (.ref (ca 1)) = some false
  e_NoText_NoText : PySem.W.exmOne K (.ref (ca 2)) (.ref (ca 2)) = some true
  xk_NoText : L4.ExK K (ca 2)
  xk_NoStand : L4.ExK K (ca 1)
  xk_BookError : L4.ExK K (ca 0)
  i_BookError_BookError : PySem.W.kitOne K (.ref (ca 0)) (.ref (ca 0)) = some true
  i_BookError_NoStand : PySem.W.kitOne K (.ref (ca 0)) (.ref (ca 1)) = some false
  i_BookError_NoText : PySem.W.kitOne K (.ref (ca 0)) (.ref (ca 2)) = some false
  i_NoStand_BookError : PySem.W.kitOne K (.ref (ca 1)) (.ref (ca 0)) = some true
  i_NoStand_NoStand : PySem.W.kitOne K (.ref (ca 1)) (.ref (ca 1)) = some true
  i_NoStand_NoText : PySem.W.kitOne K (.ref (ca 1)) (.ref (ca 2)) = some false
  i_NoText_BookError : PySem.W.kitOne K (.ref (ca 2)) (.ref (ca 0)) = some true
  i_NoText_NoStand : PySem.W.kitOne K (.ref (ca 2)) (.ref (ca 1)) = some false
  i_NoText_NoText : PySem.W.kitOne K (.ref (ca 2)) (.ref (ca 2)) = some true

section
variable {P : Program} {w : World} {K : PySem.W.Frag} {mg : Str → Option Value} {base : Heap} {ca : Nat → Addr}

abbrev BD (x q : Str) (s : Stmt) (ps : List Str) : Prop := ∀ (kV doc pm : Value) (an : Option Addr) (cdv ct : Value) (us : List Value), us.length = ps.length → bindArgs (PySem.W.fnOf x q (defArgs s) (defBody s) (defScope s) .none kV doc pm an cdv ct) ⟨us, []⟩ = pure (ps.zip us)
abbrev s__law_cell_at : Stmt := top 41
noncomputable def g__law_cell_at : Ev → M Fl :=
  (sSeq (sIf (eT (eBin oLt (eVar 1) (eCall oLen (aCons (eVar 0) aNil)))) (sRet (eBin oIx (eVar 0) (eVar 1))) sNil)
  (sRet (eC (.int 0))))
noncomputable def f__law_cell_at : List D → M D := hide fun ds => frz (run 2 g__law_cell_at ds)
theorem sc__law_cell_at : FnScope ["_law_script", "_law_k"] ["_law_script", "_law_k"] (defScope s__law_cell_at) := ⟨rfl, rfl, rfl, by decide +kernel, rfl, by decide +kernel, by decide +kernel⟩
theorem bd__law_cell_at : BD "_law_cell_at" "_law_cell_at" s__law_cell_at ["_law_script", "_law_k"] :=
  fun _ _ _ _ _ _ us hl => match us, hl with | [_, _], _ => rfl
theorem ok__law_cell_at (Xt : Txt K mg ca) : OkF ⟨K, ca⟩ P w mg base 1 "_law_cell_at" ["_law_script", "_law_k"] f__law_cell_at :=
  OkF.hide (OkF.frz (ok_of Xt.f__law_cell_at sc__law_cell_at fun _ _ _ _ _ _ _ hr =>
    (fss_cons (fs_if (ft_cmp op_lt snd_lt (fe_var 1) (fe_callB call_len_seq (snd_len rfl) rfl Xt.n_len PySem.boot_len (fa_cons (fe_var 0) fa_nil)) (nomark _)) (fss_one (fs_ret (fe_ix ix_D (snd_ix rfl) (fe_var 0) (fe_var 1) (fun _ _ => rfl)))) fss_nil)
    (fss_one (fs_ret fe_int)))))

abbrev s__law_share : Stmt := top 44
noncomputable def g__law_share : Ev → M Fl :=
  (sRet (eBin oIx (eLv (aCons (eBin oMod (eBin oDiv (eVar 0) (eC (.int 4))) (eC (.int 50))) (aCons (eC (.int 0)) (aCons (eBin oMod (eBin oDiv (eVar 0) (eC (.int 4))) (eBin oPow (eC (.int 10)) (eC (.int 12)))) (aCons (eBin oMod (eBin oDiv (eVar 0) (eC (.int 4))) (eBin oPow (eC (.int 10)) (eC (.int 4)))) aNil))))) (eBin oMod (eVar 0) (eC (.int 4)))))
noncomputable def f__law_share : List D → M D := hide fun ds => frz (run 1 g__law_share ds)
theorem sc__law_share : FnScope ["_law_number_here"] ["_law_number_here"] (defScope s__law_share) := ⟨rfl, rfl, rfl, by decide +kernel, rfl, by decide +kernel, by decide +kernel⟩
theorem bd__law_share : BD "_law_share" "_law_share" s__law_share ["_law_number_here"] :=
  fun _ _ _ _ _ _ us hl => match us, hl with | [_], _ => rfl
theorem ok__law_share (Xt : Txt K mg ca) : OkF ⟨K, ca⟩ P w mg base 1 "_law_share" ["_law_number_here"] f__law_share :=
  OkF.hide (OkF.frz (ok_of Xt.f__law_share sc__law_share fun _ _ _ _ _ _ _ hr =>
    (fss_one (fs_ret (fe_ix ix_D (snd_ix rfl) (fe_lv (fa_cons (fe_op op_mod snd_mod (fe_op op_fdiv snd_div (fe_var 0) fe_int) fe_int) (fa_cons fe_int (fa_cons (fe_op op_mod snd_mod (fe_op op_fdiv snd_div (fe_var 0) fe_int) (fe_op op_pow snd_pow fe_int fe_int)) (fa_cons (fe_op op_mod snd_mod (fe_op op_fdiv snd_div (fe_var 0) fe_int) (fe_op op_pow snd_pow fe_int fe_int)) fa_nil))))) (fe_op op_mod snd_mod (fe_var 0) fe_int) (fun _ _ => rfl))))))

abbrev s__law_mixed : Stmt := top 42
noncomputable def g__law_mixed : Ev → M Fl :=
  (sSeq (sIf (eT (eBin oEq (eBin oMod (eVar 0) (eC (.int 2))) (eC (.int 0)))) (sRet (eBin oBand (eBin oShr (eBin oDiv (eVar 0) (eC (.int 2))) (eBin oMul (eC (.int 41)) (eVar 1))) (eC (.int 2199023255551)))) sNil)
  (sSeq (sSet 2 (eBin oMod (eBin oMul (eBin oAdd (eBin oAdd (eBin oMod (eVar 0) (eC (.int 2147483647))) (eBin oMul (eC (.int 7919)) (eVar 1))) (eC (.int 1))) (eC (.int 48271))) (eC (.int 2147483647))))
  (sSeq (sSet 2 (eBin oMod (eBin oMul (eVar 2) (eBin oAdd (eBin oDiv (eVar 2) (eC (.int 1009))) (eC (.int 69621)))) (eC (.int 2147483647))))
  (sRet (eBin oMod (eBin oMul (eVar 2) (eBin oAdd (eBin oAdd (eBin oDiv (eVar 2) (eC (.int 4099))) (eC (.int 16807))) (eVar 1))) (eC (.int 2147483629)))))))
noncomputable def f__law_mixed : List D → M D := hide fun ds => frz (run 3 g__law_mixed ds)
theorem sc__law_mixed : FnScope ["_law_cell", "_law_k", "_law_number_here"] ["_law_cell", "_law_k"] (defScope s__law_mixed) := ⟨rfl, rfl, rfl, by decide +kernel, rfl, by decide +kernel, by decide +kernel⟩
theorem bd__law_mixed : BD "_law_mixed" "_law_mixed" s__law_mixed ["_law_cell", "_law_k"] :=
  fun _ _ _ _ _ _ us hl => match us, hl with | [_, _], _ => rfl
theorem ok__law_mixed (Xt : Txt K mg ca) : OkF ⟨K, ca⟩ P w mg base 1 "_law_mixed" ["_law_cell", "_law_k"] f__law_mixed :=
  OkF.hide (OkF.frz (ok_of Xt.f__law_mixed sc__law_mixed fun _ _ _ _ _ _ _ hr =>
    (fss_cons (fs_if (ft_cmp (op_eqD (hu9 hr)) sndD (fe_op op_mod snd_mod (fe_var 0) fe_int) fe_int (nomark _)) (fss_one (fs_ret (fe_op op_and snd_band (fe_op op_shr snd_shr (fe_op op_fdiv snd_div (fe_var 0) fe_int) (fe_op op_mul snd_mul fe_int (fe_var 1))) fe_int))) fss_nil)
    (fss_cons (fs_set (i := 2) sc__law_mixed.nd rfl (Or.inl rfl) (fe_op op_mod snd_mod (fe_op op_mul snd_mul (fe_op (op_addD rfl) sndD (fe_op (op_addD rfl) sndD (fe_op op_mod snd_mod (fe_var 0) fe_int) (fe_op op_mul snd_mul fe_int (fe_var 1))) fe_int) fe_int) fe_int))
    (fss_cons (fs_set (i := 2) sc__law_mixed.nd rfl (Or.inl rfl) (fe_op op_mod snd_mod (fe_op op_mul snd_mul (fe_var 2) (fe_op (op_addD rfl) sndD (fe_op op_fdiv snd_div (fe_var 2) fe_int) fe_int)) fe_int))
    (fss_one (fs_ret (fe_op op_mod snd_mod (fe_op op_mul snd_mul (fe_var 2) (fe_op (op_addD rfl) sndD (fe_op (op_addD rfl) sndD (fe_op op_fdiv snd_div (fe_var 2) fe_int) fe_int) (fe_var 1))) fe_int))))))))

abbrev s__law_amount : Stmt := top 43
noncomputable def g__law_amount : Ev → M Fl :=
  (sRet (eBin oAdd (eC (.int 1)) (eBin oIx (eLv (aCons (eBin oMod (eBin oDiv (eVar 0) (eC (.int 5))) (eC (.int 10))) (aCons (eBin oMod (eBin oDiv (eVar 0) (eC (.int 5))) (eBin oPow (eC (.int 10)) (eC (.int 12)))) (aCons (eBin oMod (eBin oDiv (eVar 0) (eC (.int 5))) (eC (.int 1000))) (aCons (eC (.int 0)) (aCons (eBin oSub (eBin oPow (eC (.int 10)) (eC (.int 12))) (eC (.int 1))) aNil)))))) (eBin oMod (eVar 0) (eC (.int 5))))))
noncomputable def f__law_amount : List D → M D := hide fun ds => frz (run 1 g__law_amount ds)
theorem sc__law_amount : FnScope ["_law_number_here"] ["_law_number_here"] (defScope s__law_amount) := ⟨rfl, rfl, rfl, by decide +kernel, rfl, by decide +kernel, by decide +kernel⟩
theorem bd__law_amount : BD "_law_amount" "_law_amount" s__law_amount ["_law_number_here"] :=
  fun _ _ _ _ _ _ us hl => match us, hl with | [_], _ => rfl
theorem ok__law_amount (Xt : Txt K mg ca) : OkF ⟨K, ca⟩ P w mg base 1 "_law_amount" ["_law_number_here"] f__law_amount :=
  OkF.hide (OkF.frz (ok_of Xt.f__law_amount sc__law_amount fun _ _ _ _ _ _ _ hr =>
    (fss_one (fs_ret (fe_op (op_addD rfl) sndD fe_int (fe_ix ix_D (snd_ix rfl) (fe_lv (fa_cons (fe_op op_mod snd_mod (fe_op op_fdiv snd_div (fe_var 0) fe_int) fe_int) (fa_cons (fe_op op_mod snd_mod (fe_op op_fdiv snd_div (fe_var 0) fe_int) (fe_op op_pow snd_pow fe_int fe_int)) (fa_cons (fe_op op_mod snd_mod (fe_op op_fdiv snd_div (fe_var 0) fe_int) fe_int) (fa_cons fe_int (fa_cons (fe_op op_sub snd_sub (fe_op op_pow snd_pow fe_int fe_int) fe_int) fa_nil)))))) (fe_op op_mod snd_mod (fe_var 0) fe_int) (fun _ _ => rfl)))))))

abbrev s__law_tie : Stmt := top 45
noncomputable def g__law_tie : Ev → M Fl :=
  (sSeq (sSet 3 (eFn 1 f__law_amount [] (aCons (eBin oAdd (eBin oMul (eFn 2 f__law_mixed [] (aCons (eVar 0) (aCons (eBin oMul (eC (.int 4)) (eVar 1)) aNil))) (eC (.int 991))) (eFn 2 f__law_mixed [] (aCons (eVar 0) (aCons (eBin oAdd (eBin oMul (eC (.int 4)) (eVar 1)) (eC (.int 1))) aNil)))) aNil)))
  (sSeq (sSet 4 (eFn 2 f__law_mixed [] (aCons (eVar 0) (aCons (eBin oAdd (eBin oMul (eC (.int 4)) (eVar 1)) (eC (.int 3))) aNil))))
  (sSeq (sSet 5 (eBin oMod (eFn 2 f__law_mixed [] (aCons (eVar 0) (aCons (eBin oAdd (eBin oMul (eC (.int 4)) (eVar 1)) (eC (.int 2))) aNil))) (eBin oIx (eLv (aCons (eC (.int 40)) (aCons (eBin oAdd (eBin oPow (eC (.int 10)) (eC (.int 6))) (eC (.int 1))) aNil))) (eBin oDiv (eBin oMod (eVar 4) (eC (.int 4))) (eC (.int 3))))))
  (sRet (eTup (aCons (eBin oMod (eBin oDiv (eVar 4) (eC (.int 8))) (eC (.int 2))) (aCons (eVar 3) (aCons (eBin oIx (eVar 2) (eVar 1)) (aCons (eVar 5) aNil)))))))))
noncomputable def f__law_tie : List D → M D := hide fun ds => frz (run 6 g__law_tie ds)
theorem sc__law_tie : FnScope ["_law_cell", "_law_k", "_law_words", "_law_amount_here", "_law_last", "_law_day"] ["_law_cell", "_law_k", "_law_words"] (defScope s__law_tie) := ⟨rfl, rfl, rfl, by decide +kernel, rfl, by decide +kernel, by decide +kernel⟩
theorem bd__law_tie : BD "_law_tie" "_law_tie" s__law_tie ["_law_cell", "_law_k", "_law_words"] :=
  fun _ _ _ _ _ _ us hl => match us, hl with | [_, _, _], _ => rfl
theorem ok__law_tie (Xt : Txt K mg ca) : OkF ⟨K, ca⟩ P w mg base 2 "_law_tie" ["_law_cell", "_law_k", "_law_words"] f__law_tie :=
  OkF.hide (OkF.frz (ok_of Xt.f__law_tie sc__law_tie fun _ _ _ _ _ _ _ hr =>
    (fss_cons (fs_set (i := 3) sc__law_tie.nd rfl (Or.inl rfl) (fe_callO (ok__law_amount Xt) rfl (hr.mono (by decide)) rfl (fa_cons (fe_op (op_addD rfl) sndD (fe_op op_mul snd_mul (fe_callO (ok__law_mixed Xt) rfl (hr.mono (by decide)) rfl (fa_cons (fe_var 0) (fa_cons (fe_op op_mul snd_mul fe_int (fe_var 1)) fa_nil))) fe_int) (fe_callO (ok__law_mixed Xt) rfl (hr.mono (by decide)) rfl (fa_cons (fe_var 0) (fa_cons (fe_op (op_addD rfl) sndD (fe_op op_mul snd_mul fe_int (fe_var 1)) fe_int) fa_nil)))) fa_nil)))
    (fss_cons (fs_set (i := 4) sc__law_tie.nd rfl (Or.inl rfl) (fe_callO (ok__law_mixed Xt) rfl (hr.mono (by decide)) rfl (fa_cons (fe_var 0) (fa_cons (fe_op (op_addD rfl) sndD (fe_op op_mul snd_mul fe_int (fe_var 1)) fe_int) fa_nil))))
    (fss_cons (fs_set (i := 5) sc__law_tie.nd rfl (Or.inl rfl) (fe_op op_mod snd_mod (fe_callO (ok__law_mixed Xt) rfl (hr.mono (by decide)) rfl (fa_cons (fe_var 0) (fa_cons (fe_op (op_addD rfl) sndD (fe_op op_mul snd_mul fe_int (fe_var 1)) fe_int) fa_nil))) (fe_ix ix_D (snd_ix rfl) (fe_lv (fa_cons fe_int (fa_cons (fe_op (op_addD rfl) sndD (fe_op op_pow snd_pow fe_int fe_int) fe_int) fa_nil))) (fe_op op_fdiv snd_div (fe_op op_mod snd_mod (fe_var 4) fe_int) fe_int) (fun _ _ => rfl))))
    (fss_one (fs_ret (fe_tup (fa_cons (fe_op op_mod snd_mod (fe_op op_fdiv snd_div (fe_var 4) fe_int) fe_int) (fa_cons (fe_var 3) (fa_cons (fe_ix ix_D (snd_ix rfl) (fe_var 2) (fe_var 1) (fun _ _ => rfl)) (fa_cons (fe_var 5) fa_nil))))))))))))

abbrev s__law_ties : Stmt := top 46
noncomputable def g__law_ties : Ev → M Fl :=
  (sSeq (sSet 1 (eLst aNil))
  (sSeq (sFor (srcR (eBin oMod (eVar 0) (eC (.int 7)))) (tgN 2) (sSeq (sSet 3 (eBin oMod (eBin oAdd (eBin oDiv (eFn 2 f__law_mixed [] (aCons (eVar 0) (aCons (eC (.int 40)) aNil))) (eC (.int 60))) (eBin oMul (eVar 2) (eBin oAdd (eC (.int 1)) (eBin oMod (eFn 2 f__law_mixed [] (aCons (eVar 0) (aCons (eC (.int 41)) aNil))) (eC (.int 9)))))) (eC (.int 60))))
  (sIf (eT (eBin (oIn true) (eVar 3) (eVar 1))) (sExp (eMeth oAppend (eVar 1) (aCons (eVar 3) aNil))) sNil)))
  (sRet (eCall oTuple (aCons (eFrz (eLC (srcR (eCall oLen (aCons (eVar 1) aNil))) [1, 0] (tgN 0) bTrue (eFn 3 f__law_tie [] (aCons (eBin oDiv (eVar 2) (eC (.int 7))) (aCons (eVar 0) (aCons (eVar 1) aNil)))))) aNil)))))
noncomputable def f__law_ties : List D → M D := hide fun ds => frz (run 4 g__law_ties ds)
theorem sc__law_ties : FnScope ["_law_cell", "_law_words", "_law_k", "_law_word"] ["_law_cell"] (defScope s__law_ties) := ⟨rfl, rfl, rfl, by decide +kernel, rfl, by decide +kernel, by decide +kernel⟩
theorem bd__law_ties : BD "_law_ties" "_law_ties" s__law_ties ["_law_cell"] :=
  fun _ _ _ _ _ _ us hl => match us, hl with | [_], _ => rfl
theorem ok__law_ties (Xt : Txt K mg ca) : OkF ⟨K, ca⟩ P w mg base 3 "_law_ties" ["_law_cell"] f__law_ties :=
  OkF.hide (OkF.frz (ok_of Xt.f__law_ties sc__law_ties fun _ _ _ _ _ _ _ hr =>
    (fss_cons (fs_set (i := 1) sc__law_ties.nd rfl (Or.inr rfl) (fe_lst fa_nil))
    (fss_cons (fs_for passes_cx rfl (fi_range rfl Xt.n_range (fe_op op_mod snd_mod (fe_var 0) fe_int)) (fg_name (i := 2) sc__law_ties.nd rfl (Or.inl rfl)) (fss_cons (fs_set (i := 3) sc__law_ties.nd rfl (Or.inl rfl) (fe_op op_mod snd_mod (fe_op (op_addD rfl) sndD (fe_op op_fdiv snd_div (fe_callO (ok__law_mixed Xt) rfl (hr.mono (by decide)) rfl (fa_cons (fe_var 0) (fa_cons fe_int fa_nil))) fe_int) (fe_op op_mul snd_mul (fe_var 2) (fe_op (op_addD rfl) sndD fe_int (fe_op op_mod snd_mod (fe_callO (ok__law_mixed Xt) rfl (hr.mono (by decide)) rfl (fa_cons (fe_var 0) (fa_cons fe_int fa_nil))) fe_int)))) fe_int))
    (fss_one (fs_if (ft_cmp op_notIn_seq (snd_in rfl true) (fe_var 3) (fe_var 1) rfl) (fss_one (fs_expr (fe_meth PySem.F.plainAttrs_list PySem.F.slot_list_append PySem.F.type_list_append mt_append snd_append (fe_var 1) (fa_cons (fe_var 3) fa_nil)))) fss_nil))))
    (fss_one (fs_ret (fe_callTy call_tuple_of (snd_tuple rfl) rfl Xt.n_tuple boot_tuple (fa_cons (fe_frz (fe_lc (x := "_law_k") (M' := ["_law_words", "_law_cell"]) (ix := [1, 0]) rfl ⟨rfl, rfl, rfl, rfl, rfl, rfl⟩ (fi_range rfl Xt.n_range (fe_callB call_len_seq (snd_len rfl) rfl Xt.n_len PySem.boot_len (fa_cons (fe_var 1) fa_nil))) (fun _ _ _ _ _ => fg_name (i := 0) (by show List.Nodup (("_law_k" :: ["_law_words", "_law_cell"]) : List Str); decide +kernel) rfl (Or.inl rfl)) (fun _ _ _ _ _ => fif_nil) (fun _ _ _ _ _ => (fe_callO (ok__law_tie Xt) rfl (hr.mono (by decide)) rfl (fa_cons (fe_op op_fdiv snd_div (fe_var 2) fe_int) (fa_cons (fe_var 0) (fa_cons (fe_var 1) fa_nil))))))) fa_nil))))))))

abbrev s__law_stand : Stmt := top 47
noncomputable def g__law_stand : Ev → M Fl :=
  (sSeq (sSet 2 (eFn 1 f__law_share [] (aCons (eBin oAdd (eBin oMul (eFn 2 f__law_mixed [] (aCons (eVar 1) (aCons (eC (.int 50)) aNil))) (eC (.int 977))) (eC (.int 3))) aNil)))
  (sSeq (sSet 3 (eFn 1 f__law_share [] (aCons (eBin oAdd (eBin oMul (eFn 2 f__law_mixed [] (aCons (eVar 1) (aCons (eC (.int 51)) aNil))) (eC (.int 983))) (eFn 2 f__law_mixed [] (aCons (eVar 1) (aCons (eC (.int 52)) aNil)))) aNil)))
  (sRet (eTup (aCons (eVar 0) (aCons (eTup (aCons (eVar 2) (aCons (eVar 3) aNil))) (aCons (eFn 1 f__law_ties [] (aCons (eBin oDiv (eVar 1) (eC (.int 3))) aNil)) aNil)))))))
noncomputable def f__law_stand : List D → M D := hide fun ds => frz (run 4 g__law_stand ds)
theorem sc__law_stand : FnScope ["_law_number_here", "_law_cell", "_law_left", "_law_right"] ["_law_number_here", "_law_cell"] (defScope s__law_stand) := ⟨rfl, rfl, rfl, by decide +kernel, rfl, by decide +kernel, by decide +kernel⟩
theorem bd__law_stand : BD "_law_stand" "_law_stand" s__law_stand ["_law_number_here", "_law_cell"] :=
  fun _ _ _ _ _ _ us hl => match us, hl with | [_, _], _ => rfl
theorem ok__law_stand (Xt : Txt K mg ca) : OkF ⟨K, ca⟩ P w mg base 4 "_law_stand" ["_law_number_here", "_law_cell"] f__law_stand :=
  OkF.hide (OkF.frz (ok_of Xt.f__law_stand sc__law_stand fun _ _ _ _ _ _ _ hr =>
    (fss_cons (fs_set (i := 2) sc__law_stand.nd rfl (Or.inl rfl) (fe_callO (ok__law_share Xt) rfl (hr.mono (by decide)) rfl (fa_cons (fe_op (op_addD rfl) sndD (fe_op op_mul snd_mul (fe_callO (ok__law_mixed Xt) rfl (hr.mono (by decide)) rfl (fa_cons (fe_var 1) (fa_cons fe_int fa_nil))) fe_int) fe_int) fa_nil)))
    (fss_cons (fs_set (i := 3) sc__law_stand.nd rfl (Or.inl rfl) (fe_callO (ok__law_share Xt) rfl (hr.mono (by decide)) rfl (fa_cons (fe_op (op_addD rfl) sndD (fe_op op_mul snd_mul (fe_callO (ok__law_mixed Xt) rfl (hr.mono (by decide)) rfl (fa_cons (fe_var 1) (fa_cons fe_int fa_nil))) fe_int) (fe_callO (ok__law_mixed Xt) rfl (hr.mono (by decide)) rfl (fa_cons (fe_var 1) (fa_cons fe_int fa_nil)))) fa_nil)))
    (fss_one (fs_ret (fe_tup (fa_cons (fe_var 0) (fa_cons (fe_tup (fa_cons (fe_var 2) (fa_cons (fe_var 3) fa_nil))) (fa_cons (fe_callO (ok__law_ties Xt) rfl (hr.mono (by decide)) rfl (fa_cons (fe_op op_fdiv snd_div (fe_var 1) fe_int) fa_nil)) fa_nil))))))))))

abbrev s__law_changed : Stmt := top 50
noncomputable def g__law_changed : Ev → M Fl :=
  (sSeq (sSet 2 (eBin oMod (eVar 1) (eC (.int 10))))
  (sSeq (sSet 1 (eBin oDiv (eVar 1) (eC (.int 10))))
  (sSeq (sSet 3 (eMethS oSplit (eVar 0) (aCons (eC (.str " ")) aNil)))
  (sSeq (sSet 4 (eBin oMod (eVar 1) (eCall oLenA (aCons (eVar 3) aNil))))
  (sSeq (sIf (eT (eBin oEq (eVar 2) (eC (.int 2)))) (sSeq (sSet 5 (eBin oMod (eVar 1) (eBin oAdd (eCall oLenA (aCons (eVar 0) aNil)) (eC (.int 1)))))
  (sRet (eBin oAdd (eBin oAdd (eSlT (eVar 0) none (some (eVar 5))) (eBin oIxA (eC (.str "0123456789/ -+.x\n")) (eBin oMod (eBin oDiv (eVar 1) (eC (.int 50))) (eC (.int 17))))) (eSlT (eVar 0) (some (eVar 5)) none)))) sNil)
  (sSeq (sIf (eT (eBin oEq (eVar 2) (eC (.int 3)))) (sSeq (sSet 5 (eBin oMod (eVar 1) (eCall oLenA (aCons (eVar 0) aNil))))
  (sRet (eBin oAdd (eSlT (eVar 0) none (some (eVar 5))) (eSlT (eVar 0) (some (eBin oAdd (eVar 5) (eC (.int 1)))) none)))) sNil)
  (sSeq (sIf (eT (eBin oEq (eVar 2) (eC (.int 4)))) (sRet (eBin oAdd (eRep1 " " "  " (eVar 0)) (eBin oIxA (eLv (aCons (eC (.str " ")) (aCons (eC (.str "")) aNil))) (eBin oMod (eVar 1) (eC (.int 2)))))) sNil)
  (sSeq (sIf (eT (eBin oEq (eVar 2) (eC (.int 5)))) (sRet (eMethS oJoin (eC (.str " ")) (aCons (eBin oAdd (eSl (eVar 3) none (some (eVar 4))) (eSl (eVar 3) (some (eBin oAdd (eVar 4) (eC (.int 1)))) none)) aNil))) sNil)
  (sSeq (sIf (eT (eBin oEq (eVar 2) (eC (.int 6)))) (sSeq (sSet 6 (eBin oIxA (eLv (aCons (eC (.str "7")) (aCons (eC (.str "0/3/5/9")) (aCons (eC (.str "word")) (aCons (eC (.str "")) (aCons (eC (.str "1/2/3")) (aCons (eC (.str "0/0/5/9")) (aCons (eC (.str "2/3/5/9")) aNil)))))))) (eBin oMod (eBin oDiv (eVar 1) (eC (.int 50))) (eC (.int 7)))))
  (sRet (eMethS oJoin (eC (.str " ")) (aCons (eBin oAdd (eBin oAdd (eSl (eVar 3) none (some (eVar 4))) (eLv (aCons (eVar 6) aNil))) (eSl (eVar 3) (some (eVar 4)) none)) aNil)))) sNil)
  (sSeq (sIf (eT (eBin oEq (eVar 2) (eC (.int 7)))) (sSeq (sSet 7 (eLv (aCons (eC (.str "1000001")) (aCons (eC (.str "2000000000001")) (aCons (eC (.str "999999999999999")) (aCons (eBin oMulS (eC (.str "1")) (eC (.int 30))) (aCons (eBin oMulS (eC (.str "1")) (eC (.int 31))) (aCons (eC (.str "07")) (aCons (eC (.str "60")) (aCons (eC (.str "3")) (aCons (eC (.str "0/1/60/5")) aNil)))))))))))
  (sRet (eMethS oJoin (eC (.str " ")) (aCons (eBin oAdd (eBin oAdd (eSl (eVar 3) none (some (eVar 4))) (eLv (aCons (eBin oIxA (eVar 7) (eBin oMod (eBin oDiv (eVar 1) (eC (.int 50))) (eC (.int 9)))) aNil))) (eSl (eVar 3) (some (eBin oAdd (eVar 4) (eC (.int 1)))) none)) aNil)))) sNil)
  (sSeq (sIf (eT (eBin oEq (eVar 2) (eC (.int 8)))) (sRet (eBin oIxA (eLv (aCons (eC .non) (aCons (eC (.int 7)) (aCons (eLv (aCons (eVar 0) aNil)) (aCons (eTup (aCons (eC (.str "word")) (aCons (eC (.int 7)) aNil))) aNil))))) (eBin oMod (eVar 1) (eC (.int 4))))) sNil)
  (sRet (eVar 0)))))))))))))
noncomputable def f__law_changed : List D → M D := hide fun ds => frz (run 8 g__law_changed ds)
theorem sc__law_changed : FnScope ["_law_text_here", "_law_cell", "_law_way", "_law_words", "_law_at", "_law_spot", "_law_more", "_law_odd"] ["_law_text_here", "_law_cell"] (defScope s__law_changed) := ⟨rfl, rfl, rfl, by decide +kernel, rfl, by decide +kernel, by decide +kernel⟩
theorem bd__law_changed : BD "_law_changed" "_law_changed" s__law_changed ["_law_text_here", "_law_cell"] :=
  fun _ _ _ _ _ _ us hl => match us, hl with | [_, _], _ => rfl
theorem ok__law_changed (Xt : Txt K mg ca) : OkF ⟨K, ca⟩ P w mg base 1 "_law_changed" ["_law_text_here", "_law_cell"] f__law_changed :=
  OkF.hide (OkF.frz (ok_of Xt.f__law_changed sc__law_changed fun _ _ _ _ _ _ _ hr =>
    (fss_cons (fs_set (i := 2) sc__law_changed.nd rfl (Or.inl rfl) (fe_op op_mod snd_mod (fe_var 1) fe_int))
    (fss_cons (fs_set (i := 1) sc__law_changed.nd rfl (Or.inl rfl) (fe_op op_fdiv snd_div (fe_var 1) fe_int))
    (fss_cons (fs_set (i := 3) sc__law_changed.nd rfl (Or.inl rfl) (fe_methS PySem.F.plainAttrs_str PySem.F.slot_str_split PySem.F.type_str_split mt_split snd_split (fe_var 0) (fa_cons fe_str fa_nil)))
    (fss_cons (fs_set (i := 4) sc__law_changed.nd rfl (Or.inl rfl) (fe_op op_mod snd_mod (fe_var 1) (fe_callB call_lenA (snd_lenA rfl) rfl Xt.n_len PySem.boot_len (fa_cons (fe_var 3) fa_nil))))
    (fss_cons (fs_if (ft_cmp (op_eqD (hu9 hr)) sndD (fe_var 2) fe_int (nomark _)) (fss_cons (fs_set (i := 5) sc__law_changed.nd rfl (Or.inl rfl) (fe_op op_mod snd_mod (fe_var 1) (fe_op (op_addD rfl) sndD (fe_callB call_lenA (snd_lenA rfl) rfl Xt.n_len PySem.boot_len (fa_cons (fe_var 0) fa_nil)) fe_int)))
    (fss_one (fs_ret (fe_op (op_addD rfl) sndD (fe_op (op_addD rfl) sndD (fe_sliceT (fe_var 0) fo_none (fo_some (fe_var 5))) (fe_ix ix_A (snd_ixA rfl) fe_str (fe_op op_mod snd_mod (fe_op op_fdiv snd_div (fe_var 1) fe_int) fe_int) (fun _ _ => rfl))) (fe_sliceT (fe_var 0) (fo_some (fe_var 5)) fo_none))))) fss_nil)
    (fss_cons (fs_if (ft_cmp (op_eqD (hu9 hr)) sndD (fe_var 2) fe_int (nomark _)) (fss_cons (fs_set (i := 5) sc__law_changed.nd rfl (Or.inl rfl) (fe_op op_mod snd_mod (fe_var 1) (fe_callB call_lenA (snd_lenA rfl) rfl Xt.n_len PySem.boot_len (fa_cons (fe_var 0) fa_nil))))
    (fss_one (fs_ret (fe_op (op_addD rfl) sndD (fe_sliceT (fe_var 0) fo_none (fo_some (fe_var 5))) (fe_sliceT (fe_var 0) (fo_some (fe_op (op_addD rfl) sndD (fe_var 5) fe_int)) fo_none))))) fss_nil)
    (fss_cons (fs_ifT (ft_cmp (op_eqD (hu9 hr)) sndD (fe_var 2) fe_int (nomark _)) (fe_op1 (op_addD rfl) sndD (fe_rep1 (fe_var 0)) (fe_ix ix_A (snd_ixA rfl) (fe_lv (fa_cons fe_str (fa_cons fe_str fa_nil))) (fe_op op_mod snd_mod (fe_var 1) fe_int) (fun _ _ => rfl))))
    (fss_cons (fs_if (ft_cmp (op_eqD (hu9 hr)) sndD (fe_var 2) fe_int (nomark _)) (fss_one (fs_ret (fe_methS PySem.F.plainAttrs_str PySem.F.slot_str_join PySem.F.type_str_join mt_join snd_join fe_str (fa_cons (fe_op (op_addD rfl) sndD (fe_slice rfl (fe_var 3) fo_none (fo_some (fe_var 4))) (fe_slice rfl (fe_var 3) (fo_some (fe_op (op_addD rfl) sndD (fe_var 4) fe_int)) fo_none)) fa_nil)))) fss_nil)
    (fss_cons (fs_if (ft_cmp (op_eqD (hu9 hr)) sndD (fe_var 2) fe_int (nomark _)) (fss_cons (fs_set (i := 6) sc__law_changed.nd rfl (Or.inl rfl) (fe_ix ix_A (snd_ixA rfl) (fe_lv (fa_cons fe_str (fa_cons fe_str (fa_cons fe_str (fa_cons fe_str (fa_cons fe_str (fa_cons fe_str (fa_cons fe_str fa_nil)))))))) (fe_op op_mod snd_mod (fe_op op_fdiv snd_div (fe_var 1) fe_int) fe_int) (fun _ _ => rfl)))
    (fss_one (fs_ret (fe_methS PySem.F.plainAttrs_str PySem.F.slot_str_join PySem.F.type_str_join mt_join snd_join fe_str (fa_cons (fe_op (op_addD rfl) sndD (fe_op (op_addD rfl) sndD (fe_slice rfl (fe_var 3) fo_none (fo_some (fe_var 4))) (fe_lv (fa_cons (fe_var 6) fa_nil))) (fe_slice rfl (fe_var 3) (fo_some (fe_var 4)) fo_none)) fa_nil))))) fss_nil)
    (fss_cons (fs_if (ft_cmp (op_eqD (hu9 hr)) sndD (fe_var 2) fe_int (nomark _)) (fss_cons (fs_set (i := 7) sc__law_changed.nd rfl (Or.inl rfl) (fe_lv (fa_cons fe_str (fa_cons fe_str (fa_cons fe_str (fa_cons (fe_op op_mulS snd_mulS fe_str fe_int) (fa_cons (fe_op op_mulS snd_mulS fe_str fe_int) (fa_cons fe_str (fa_cons fe_str (fa_cons fe_str (fa_cons fe_str fa_nil)))))))))))
    (fss_one (fs_ret (fe_methS PySem.F.plainAttrs_str PySem.F.slot_str_join PySem.F.type_str_join mt_join snd_join fe_str (fa_cons (fe_op (op_addD rfl) sndD (fe_op (op_addD rfl) sndD (fe_slice rfl (fe_var 3) fo_none (fo_some (fe_var 4))) (fe_lv (fa_cons (fe_ix ix_A (snd_ixA rfl) (fe_var 7) (fe_op op_mod snd_mod (fe_op op_fdiv snd_div (fe_var 1) fe_int) fe_int) (fun _ _ => rfl)) fa_nil))) (fe_slice rfl (fe_var 3) (fo_some (fe_op (op_addD rfl) sndD (fe_var 4) fe_int)) fo_none)) fa_nil))))) fss_nil)
    (fss_cons (fs_if (ft_cmp (op_eqD (hu9 hr)) sndD (fe_var 2) fe_int (nomark _)) (fss_one (fs_ret (fe_ix ix_A (snd_ixA rfl) (fe_lv (fa_cons fe_non (fa_cons fe_int (fa_cons (fe_lv (fa_cons (fe_var 0) fa_nil)) (fa_cons (fe_tup (fa_cons fe_str (fa_cons fe_int fa_nil))) fa_nil))))) (fe_op op_mod snd_mod (fe_var 1) fe_int) (fun _ _ => rfl)))) fss_nil)
    (fss_one (fs_ret (fe_var 0))))))))))))))))

abbrev s__law_text : Stmt := top 48
noncomputable def g__law_text : Ev → M Fl :=
  (sSeq (sSet 1 (eBin oAdd (eBin oAdd (eBin oAdd (eBin oAdd (eCall oStr1 (aCons (eBin oIx (eVar 0) (eC (.int 0))) aNil)) (eC (.str " "))) (eCall oStr1 (aCons (eBin oIx (eBin oIx (eVar 0) (eC (.int 1))) (eC (.int 0))) aNil))) (eC (.str " "))) (eCall oStr1 (aCons (eBin oIx (eBin oIx (eVar 0) (eC (.int 1))) (eC (.int 1))) aNil))))
  (sSeq (sFor (srcS (eBin oIx (eVar 0) (eC (.int 2)))) (tgN 2) (sSeq (sSet 1 (eBin oAdd (eBin oAdd (eBin oAdd (eBin oAdd (eVar 1) (eC (.str " "))) (eCall oStr1 (aCons (eBin oIx (eVar 2) (eC (.int 0))) aNil))) (eC (.str "/"))) (eCall oStr1 (aCons (eBin oIx (eVar 2) (eC (.int 1))) aNil))))
  (sSet 1 (eBin oAdd (eBin oAdd (eBin oAdd (eBin oAdd (eVar 1) (eC (.str "/"))) (eCall oStr1 (aCons (eBin oIx (eVar 2) (eC (.int 2))) aNil))) (eC (.str "/"))) (eCall oStr1 (aCons (eBin oIx (eVar 2) (eC (.int 3))) aNil))))))
  (sRet (eVar 1))))
noncomputable def f__law_text : List D → M D := hide fun ds => frz (run 3 g__law_text ds)
theorem sc__law_text : FnScope ["_law_one", "_law_text_here", "_law_tie_here"] ["_law_one"] (defScope s__law_text) := ⟨rfl, rfl, rfl, by decide +kernel, rfl, by decide +kernel, by decide +kernel⟩
theorem bd__law_text : BD "_law_text" "_law_text" s__law_text ["_law_one"] :=
  fun _ _ _ _ _ _ us hl => match us, hl with | [_], _ => rfl
theorem ok__law_text (Xt : Txt K mg ca) : OkF ⟨K, ca⟩ P w mg base 1 "_law_text" ["_law_one"] f__law_text :=
  OkF.hide (OkF.frz (ok_of Xt.f__law_text sc__law_text fun _ _ _ _ _ _ _ hr =>
    (fss_cons (fs_set (i := 1) sc__law_text.nd rfl (Or.inl rfl) (fe_op (op_addD rfl) sndD (fe_op (op_addD rfl) sndD (fe_op (op_addD rfl) sndD (fe_op (op_addD rfl) sndD (fe_callTy call_str_int snd_str1 rfl Xt.n_str boot_str (fa_cons (fe_ix ix_D (snd_ix rfl) (fe_var 0) fe_int (fun _ _ => rfl)) fa_nil)) fe_str) (fe_callTy call_str_int snd_str1 rfl Xt.n_str boot_str (fa_cons (fe_ix ix_D (snd_ix rfl) (fe_ix ix_D (snd_ix rfl) (fe_var 0) fe_int (fun _ _ => rfl)) fe_int (fun _ _ => rfl)) fa_nil))) fe_str) (fe_callTy call_str_int snd_str1 rfl Xt.n_str boot_str (fa_cons (fe_ix ix_D (snd_ix rfl) (fe_ix ix_D (snd_ix rfl) (fe_var 0) fe_int (fun _ _ => rfl)) fe_int (fun _ _ => rfl)) fa_nil))))
    (fss_cons (fs_for passes_cx rfl (fi_seq rfl (fe_ix ix_D (snd_ix rfl) (fe_var 0) fe_int (fun _ _ => rfl))) (fg_name (i := 2) sc__law_text.nd rfl (Or.inl rfl)) (fss_cons (fs_set (i := 1) sc__law_text.nd rfl (Or.inl rfl) (fe_op (op_addD rfl) sndD (fe_op (op_addD rfl) sndD (fe_op (op_addD rfl) sndD (fe_op (op_addD rfl) sndD (fe_var 1) fe_str) (fe_callTy call_str_int snd_str1 rfl Xt.n_str boot_str (fa_cons (fe_ix ix_D (snd_ix rfl) (fe_var 2) fe_int (fun _ _ => rfl)) fa_nil))) fe_str) (fe_callTy call_str_int snd_str1 rfl Xt.n_str boot_str (fa_cons (fe_ix ix_D (snd_ix rfl) (fe_var 2) fe_int (fun _ _ => rfl)) fa_nil))))
    (fss_one (fs_set (i := 1) sc__law_text.nd rfl (Or.inl rfl) (fe_op (op_addD rfl) sndD (fe_op (op_addD rfl) sndD (fe_op (op_addD rfl) sndD (fe_op (op_addD rfl) sndD (fe_var 1) fe_str) (fe_callTy call_str_int snd_str1 rfl Xt.n_str boot_str (fa_cons (fe_ix ix_D (snd_ix rfl) (fe_var 2) fe_int (fun _ _ => rfl)) fa_nil))) fe_str) (fe_callTy call_str_int snd_str1 rfl Xt.n_str boot_str (fa_cons (fe_ix ix_D (snd_ix rfl) (fe_var 2) fe_int (fun _ _ => rfl)) fa_nil)))))))
    (fss_one (fs_ret (fe_var 1)))))))

abbrev s__law_begun : Stmt := top 49
noncomputable def g__law_begun : Ev → M Fl :=
  (sSeq (sSet 2 (eCall oStr1 (aCons (eBin oMod (eBin oDiv (eVar 0) (eC (.int 5))) (eC (.int 3))) aNil)))
  (sSeq (sSet 3 (eCall oStr1 (aCons (eBin oMod (eBin oDiv (eVar 0) (eC (.int 15))) (eC (.int 2))) aNil)))
  (sSeq (sIf (eT (eBin oEq (eBin oMod (eVar 0) (eC (.int 5))) (eC (.int 0)))) (sRet (eBin oAdd (eC (.str "word ")) (eCall oStr1 (aCons (eBin oMod (eBin oDiv (eVar 0) (eC (.int 5))) (eC (.int 60))) aNil)))) sNil)
  (sSeq (sIf (eT (eBin oEq (eBin oMod (eVar 0) (eC (.int 5))) (eC (.int 1)))) (sRet (eBin oAdd (eBin oAdd (eBin oAdd (eBin oAdd (eBin oAdd (eC (.str "strike ")) (eVar 2)) (eC (.str " "))) (eVar 3)) (eC (.str " "))) (eCall oStr1 (aCons (eBin oMod (eBin oDiv (eVar 0) (eC (.int 30))) (eBin oAdd (eBin oPow (eC (.int 10)) (eC (.int 6))) (eC (.int 1)))) aNil)))) sNil)
  (sSeq (sIf (eT (eBin oEq (eBin oMod (eVar 0) (eC (.int 5))) (eC (.int 2)))) (sRet (eBin oAdd (eBin oAdd (eBin oAdd (eBin oAdd (eBin oAdd (eC (.str "agree ")) (eVar 2)) (eC (.str " "))) (eVar 3)) (eC (.str " "))) (eFn 1 f__law_text [] (aCons (eVar 1) aNil)))) sNil)
  (sRet (eFn 1 f__law_text [] (aCons (eVar 1) aNil))))))))
noncomputable def f__law_begun : List D → M D := hide fun ds => frz (run 4 g__law_begun ds)
theorem sc__law_begun : FnScope ["_law_cell", "_law_one", "_law_pot", "_law_side"] ["_law_cell", "_law_one"] (defScope s__law_begun) := ⟨rfl, rfl, rfl, by decide +kernel, rfl, by decide +kernel, by decide +kernel⟩
theorem bd__law_begun : BD "_law_begun" "_law_begun" s__law_begun ["_law_cell", "_law_one"] :=
  fun _ _ _ _ _ _ us hl => match us, hl with | [_, _], _ => rfl
theorem ok__law_begun (Xt : Txt K mg ca) : OkF ⟨K, ca⟩ P w mg base 2 "_law_begun" ["_law_cell", "_law_one"] f__law_begun :=
  OkF.hide (OkF.frz (ok_of Xt.f__law_begun sc__law_begun fun _ _ _ _ _ _ _ hr =>
    (fss_cons (fs_set (i := 2) sc__law_begun.nd rfl (Or.inl rfl) (fe_callTy call_str_int snd_str1 rfl Xt.n_str boot_str (fa_cons (fe_op op_mod snd_mod (fe_op op_fdiv snd_div (fe_var 0) fe_int) fe_int) fa_nil)))
    (fss_cons (fs_set (i := 3) sc__law_begun.nd rfl (Or.inl rfl) (fe_callTy call_str_int snd_str1 rfl Xt.n_str boot_str (fa_cons (fe_op op_mod snd_mod (fe_op op_fdiv snd_div (fe_var 0) fe_int) fe_int) fa_nil)))
    (fss_cons (fs_if (ft_cmp (op_eqD (hu9 hr)) sndD (fe_op op_mod snd_mod (fe_var 0) fe_int) fe_int (nomark _)) (fss_one (fs_ret (fe_op (op_addD rfl) sndD fe_str (fe_callTy call_str_int snd_str1 rfl Xt.n_str boot_str (fa_cons (fe_op op_mod snd_mod (fe_op op_fdiv snd_div (fe_var 0) fe_int) fe_int) fa_nil))))) fss_nil)
    (fss_cons (fs_if (ft_cmp (op_eqD (hu9 hr)) sndD (fe_op op_mod snd_mod (fe_var 0) fe_int) fe_int (nomark _)) (fss_one (fs_ret (fe_op (op_addD rfl) sndD (fe_op (op_addD rfl) sndD (fe_op (op_addD rfl) sndD (fe_op (op_addD rfl) sndD (fe_op (op_addD rfl) sndD fe_str (fe_var 2)) fe_str) (fe_var 3)) fe_str) (fe_callTy call_str_int snd_str1 rfl Xt.n_str boot_str (fa_cons (fe_op op_mod snd_mod (fe_op op_fdiv snd_div (fe_var 0) fe_int) (fe_op (op_addD rfl) sndD (fe_op op_pow snd_pow fe_int fe_int) fe_int)) fa_nil))))) fss_nil)
    (fss_cons (fs_if (ft_cmp (op_eqD (hu9 hr)) sndD (fe_op op_mod snd_mod (fe_var 0) fe_int) fe_int (nomark _)) (fss_one (fs_ret (fe_op (op_addD rfl) sndD (fe_op (op_addD rfl) sndD (fe_op (op_addD rfl) sndD (fe_op (op_addD rfl) sndD (fe_op (op_addD rfl) sndD fe_str (fe_var 2)) fe_str) (fe_var 3)) fe_str) (fe_callO (ok__law_text Xt) rfl (hr.mono (by decide)) rfl (fa_cons (fe_var 1) fa_nil))))) fss_nil)
    (fss_one (fs_ret (fe_callO (ok__law_text Xt) rfl (hr.mono (by decide)) rfl (fa_cons (fe_var 1) fa_nil)))))))))))

abbrev s__law_number : Stmt := top 51
noncomputable def g__law_number : Ev → M Fl :=
  (sSeq (sIf (bOr (eT (eBin oLt (eCall oLenA (aCons (eVar 0) aNil)) (eC (.int 1)))) (bOr (eT (eBin oGt (eCall oLenA (aCons (eVar 0) aNil)) (eC (.int 30)))) (bNot (eT (eCall oAll (aCons (eFrz (eLC (srcT (eVar 0)) [] (tgN 0) bTrue (eBin oInS (eVar 0) (eC (.str "0123456789"))))) aNil)))))) (sRet (eC .non)) sNil)
  (sSeq (sIf (bAnd (eT (eBin oEq (eBin oIxA (eVar 0) (eC (.int 0))) (eC (.str "0")))) (eT (eBin oGt (eCall oLenA (aCons (eVar 0) aNil)) (eC (.int 1))))) (sRet (eC .non)) sNil)
  (sRet (eCall oIntA (aCons (eVar 0) aNil)))))
noncomputable def f__law_number : List D → M D := hide fun ds => frz (run 1 g__law_number ds)
theorem sc__law_number : FnScope ["_law_word"] ["_law_word"] (defScope s__law_number) := ⟨rfl, rfl, rfl, by decide +kernel, rfl, by decide +kernel, by decide +kernel⟩
theorem bd__law_number : BD "_law_number" "_law_number" s__law_number ["_law_word"] :=
  fun _ _ _ _ _ _ us hl => match us, hl with | [_], _ => rfl
theorem ok__law_number (Xt : Txt K mg ca) : OkF ⟨K, ca⟩ P w mg base 1 "_law_number" ["_law_word"] f__law_number :=
  OkF.hide (OkF.frz (ok_of Xt.f__law_number sc__law_number fun _ _ _ _ _ _ _ hr =>
    (fss_cons (fs_if (L2.PW.pt (fw_or (ft_cmp op_lt snd_lt (fe_callB call_lenA (snd_lenA rfl) rfl Xt.n_len PySem.boot_len (fa_cons (fe_var 0) fa_nil)) fe_int (nomark _)) (fw_or (ft_cmp op_gt snd_gt (fe_callB call_lenA (snd_lenA rfl) rfl Xt.n_len PySem.boot_len (fa_cons (fe_var 0) fa_nil)) fe_int (nomark _)) (fw_or1 (ft_not (ft_val (fe_callB (call_all rfl) (snd_all rfl) rfl Xt.n_all boot_all (fa_cons (fe_frz (fe_lc (x := "_law_sign") (M' := []) (ix := []) rfl ⟨rfl, rfl, rfl, rfl, rfl, rfl⟩ (fi_str (fe_var 0)) (fun _ _ _ _ _ => fg_name (i := 0) (by show List.Nodup (("_law_sign" :: []) : List Str); decide +kernel) rfl (Or.inl rfl)) (fun _ _ _ _ _ => fif_nil) (fun _ _ _ _ _ => (fe_cmp op_in_str snd_inS (fe_var 0) fe_str rfl)))) fa_nil)))))))) (fss_one (fs_ret fe_non)) fss_nil)
    (fss_cons (fs_if (L2.PW.pt (fw_and (ft_cmp (op_eqD (hu9 hr)) sndD (fe_ix ix_A (snd_ixA rfl) (fe_var 0) fe_int (fun _ _ => rfl)) fe_str (nomark _)) (fw_and1 (ft_cmp op_gt snd_gt (fe_callB call_lenA (snd_lenA rfl) rfl Xt.n_len PySem.boot_len (fa_cons (fe_var 0) fa_nil)) fe_int (nomark _))))) (fss_one (fs_ret fe_non)) fss_nil)
    (fss_one (fs_ret (fe_callTy call_intA snd_intA rfl Xt.n_int boot_int (fa_cons (fe_var 0) fa_nil))))))))

abbrev s__law_stand_of : Stmt := top 52
noncomputable def g__law_stand_of : Ev → M Fl :=
  (sSeq (sSet 1 (eFrz (eLC (srcS (eSl (eVar 0) none (some (eC (.int 3))))) [] (tgN 0) bTrue (eFn 1 f__law_number [] (aCons (eVar 0) aNil)))))
  (sSeq (sSet 2 (eLst aNil))
  (sSeq (sFor (srcS (eSl (eVar 0) (some (eC (.int 3))) none)) (tgN 3) (sSeq (sSet 4 (eFrz (eLC (srcS (eMethS oSplit (eVar 3) (aCons (eC (.str "/")) aNil))) [] (tgN 0) bTrue (eFn 1 f__law_number [] (aCons (eVar 0) aNil)))))
  (sSeq (sIf (bOr (eT (eBin oNe (eCall oLen (aCons (eVar 4) aNil)) (eC (.int 4)))) (eT (eBin (oIn false) (eC .non) (eVar 4)))) (sRet (eC (.str "text"))) sNil)
  (sExp (eMeth oAppend (eVar 2) (aCons (eTup (aCons (eBin oIx (eVar 4) (eC (.int 0))) (aCons (eBin oIx (eVar 4) (eC (.int 1))) (aCons (eBin oIx (eVar 4) (eC (.int 2))) (aCons (eBin oIx (eVar 4) (eC (.int 3))) aNil))))) aNil))))))
  (sSeq (sIf (bOr (eT (eBin oLt (eCall oLen (aCons (eVar 1) aNil)) (eC (.int 3)))) (eT (eBin (oIn false) (eC .non) (eVar 1)))) (sRet (eC (.str "text"))) sNil)
  (sSeq (sIf (bOr (eT (eBin oGt (eBin oIx (eVar 1) (eC (.int 0))) (eBin oPow (eC (.int 10)) (eC (.int 6))))) (bOr (eT (eBin oGt (eCall (oMnI mxL) (aCons (eVar 1) aNil)) (eBin oMul (eC (.int 2)) (eBin oPow (eC (.int 10)) (eC (.int 12)))))) (eT (eBin oGt (eCall oLen (aCons (eVar 2) aNil)) (eC (.int 6)))))) (sRet (eC (.str "stand"))) sNil)
  (sSeq (sFor (srcS (eVar 2)) (tgT 4 (tgCons (tgN 5) (tgCons (tgN 6) (tgCons (tgN 3) (tgCons (tgN 7) tgNil))))) (sIf (bOr (eT (eBin oGt (eVar 5) (eC (.int 1)))) (bOr (bNot (eT (eChain oLe oLe (eC (.int 1)) (eVar 6) (eBin oPow (eC (.int 10)) (eC (.int 12)))))) (bOr (eT (eBin oGt (eVar 3) (eC (.int 59)))) (eT (eBin oGt (eVar 7) (eBin oPow (eC (.int 10)) (eC (.int 6)))))))) (sRet (eC (.str "stand"))) sNil))
  (sSeq (sIf (eT (eBin oNe (eUn oLenSet (eFrz (eLC (srcS (eVar 2)) [] (tgN 0) bTrue (eBin oIx (eVar 0) (eC (.int 2)))))) (eCall oLen (aCons (eVar 2) aNil)))) (sRet (eC (.str "stand"))) sNil)
  (sRet (eTup (aCons (eBin oIx (eVar 1) (eC (.int 0))) (aCons (eTup (aCons (eBin oIx (eVar 1) (eC (.int 1))) (aCons (eBin oIx (eVar 1) (eC (.int 2))) aNil))) (aCons (eCall oTuple (aCons (eVar 2) aNil)) aNil))))))))))))
noncomputable def f__law_stand_of : List D → M D := hide fun ds => frz (run 8 g__law_stand_of ds)
theorem sc__law_stand_of : FnScope ["_law_words", "_law_numbers", "_law_ties_here", "_law_word", "_law_parts", "_law_payer", "_law_amount_here", "_law_day"] ["_law_words"] (defScope s__law_stand_of) := ⟨rfl, rfl, rfl, by decide +kernel, rfl, by decide +kernel, by decide +kernel⟩
theorem bd__law_stand_of : BD "_law_stand_of" "_law_stand_of" s__law_stand_of ["_law_words"] :=
  fun _ _ _ _ _ _ us hl => match us, hl with | [_], _ => rfl
theorem ok__law_stand_of (Xt : Txt K mg ca) : OkF ⟨K, ca⟩ P w mg base 2 "_law_stand_of" ["_law_words"] f__law_stand_of :=
  OkF.hide (OkF.frz (ok_of Xt.f__law_stand_of sc__law_stand_of fun _ _ _ _ _ _ _ hr =>
    (fss_cons (fs_setF (fs_setLC (i := 1) sc__law_stand_of.nd rfl (Or.inl rfl) (x := "_law_word") (M' := []) (ix := []) rfl ⟨rfl, rfl, rfl, rfl, rfl, rfl⟩ (fi_seq rfl (fe_slice rfl (fe_var 0) fo_none (fo_some fe_int))) (fun _ _ _ _ _ => fg_name (i := 0) (by show List.Nodup (("_law_word" :: []) : List Str); decide +kernel) rfl (Or.inl rfl)) (fun _ _ _ _ _ => fif_nil) (fun _ _ _ _ _ => (fe_callO (ok__law_number Xt) rfl (hr.mono (by decide)) rfl (fa_cons (fe_var 0) fa_nil)))))
    (fss_cons (fs_set (i := 2) sc__law_stand_of.nd rfl (Or.inl rfl) (fe_lst fa_nil))
    (fss_cons (fs_for passes_cx rfl (fi_seq rfl (fe_slice rfl (fe_var 0) (fo_some fe_int) fo_none)) (fg_name (i := 3) sc__law_stand_of.nd rfl (Or.inl rfl)) (fss_cons (fs_setF (fs_setLC (i := 4) sc__law_stand_of.nd rfl (Or.inl rfl) (x := "_law_part") (M' := []) (ix := []) rfl ⟨rfl, rfl, rfl, rfl, rfl, rfl⟩ (fi_seq rfl (fe_methS PySem.F.plainAttrs_str PySem.F.slot_str_split PySem.F.type_str_split mt_split snd_split (fe_var 3) (fa_cons fe_str fa_nil))) (fun _ _ _ _ _ => fg_name (i := 0) (by show List.Nodup (("_law_part" :: []) : List Str); decide +kernel) rfl (Or.inl rfl)) (fun _ _ _ _ _ => fif_nil) (fun _ _ _ _ _ => (fe_callO (ok__law_number Xt) rfl (hr.mono (by decide)) rfl (fa_cons (fe_var 0) fa_nil)))))
    (fss_cons (fs_if (L2.PW.pt (fw_or (ft_cmp (op_neD (hu9 hr)) sndD (fe_callB call_len_seq (snd_len rfl) rfl Xt.n_len PySem.boot_len (fa_cons (fe_var 4) fa_nil)) fe_int (nomark _)) (fw_or1 (ft_cmp op_in_seq (snd_in rfl false) fe_non (fe_var 4) rfl)))) (fss_one (fs_ret fe_str)) fss_nil)
    (fss_one (fs_expr (fe_meth PySem.F.plainAttrs_list PySem.F.slot_list_append PySem.F.type_list_append mt_append snd_append (fe_var 2) (fa_cons (fe_tup (fa_cons (fe_ix ix_D (snd_ix rfl) (fe_var 4) fe_int (fun _ _ => rfl)) (fa_cons (fe_ix ix_D (snd_ix rfl) (fe_var 4) fe_int (fun _ _ => rfl)) (fa_cons (fe_ix ix_D (snd_ix rfl) (fe_var 4) fe_int (fun _ _ => rfl)) (fa_cons (fe_ix ix_D (snd_ix rfl) (fe_var 4) fe_int (fun _ _ => rfl)) fa_nil))))) fa_nil)))))))
    (fss_cons (fs_if (L2.PW.pt (fw_or (ft_cmp op_lt snd_lt (fe_callB call_len_seq (snd_len rfl) rfl Xt.n_len PySem.boot_len (fa_cons (fe_var 1) fa_nil)) fe_int (nomark _)) (fw_or1 (ft_cmp op_in_seq (snd_in rfl false) fe_non (fe_var 1) rfl)))) (fss_one (fs_ret fe_str)) fss_nil)
    (fss_cons (fs_if (L2.PW.pt (fw_or (ft_cmp op_gt snd_gt (fe_ix ix_D (snd_ix rfl) (fe_var 1) fe_int (fun _ _ => rfl)) (fe_op op_pow snd_pow fe_int fe_int) (nomark _)) (fw_or (ft_cmp op_gt snd_gt (fe_callB (call_maxI rfl) (snd_mnI rfl) rfl Xt.n_max boot_max (fa_cons (fe_var 1) fa_nil)) (fe_op op_mul snd_mul fe_int (fe_op op_pow snd_pow fe_int fe_int)) (nomark _)) (fw_or1 (ft_cmp op_gt snd_gt (fe_callB call_len_seq (snd_len rfl) rfl Xt.n_len PySem.boot_len (fa_cons (fe_var 2) fa_nil)) fe_int (nomark _)))))) (fss_one (fs_ret fe_str)) fss_nil)
    (fss_cons (fs_for passes_cx rfl (fi_seq rfl (fe_var 2)) (fg_tup rfl (fgs_cons (fg_name (i := 5) sc__law_stand_of.nd rfl (Or.inl rfl)) (fgs_cons (fg_name (i := 6) sc__law_stand_of.nd rfl (Or.inl rfl)) (fgs_cons (fg_name (i := 3) sc__law_stand_of.nd rfl (Or.inl rfl)) (fgs_cons (fg_name (i := 7) sc__law_stand_of.nd rfl (Or.inl rfl)) fgs_nil))))) (fss_one (fs_if (L2.PW.pt (fw_or (ft_cmp op_gt snd_gt (fe_var 5) fe_int (nomark _)) (fw_or (ft_not (ft_chain op_le snd_le op_le snd_le fe_int (fe_var 6) (fe_op op_pow snd_pow fe_int fe_int))) (fw_or (ft_cmp op_gt snd_gt (fe_var 3) fe_int (nomark _)) (fw_or1 (ft_cmp op_gt snd_gt (fe_var 7) (fe_op op_pow snd_pow fe_int fe_int) (nomark _))))))) (fss_one (fs_ret fe_str)) fss_nil)))
    (fss_cons (fs_if (ft_cmp (op_neD (hu9 hr)) sndD (fe_lenSet rfl rfl rfl Xt.n_len rfl Xt.n_set (fe_frz (fe_lc (x := "_law_tie_here") (M' := []) (ix := []) rfl ⟨rfl, rfl, rfl, rfl, rfl, rfl⟩ (fi_seq rfl (fe_var 2)) (fun _ _ _ _ _ => fg_name (i := 0) (by show List.Nodup (("_law_tie_here" :: []) : List Str); decide +kernel) rfl (Or.inl rfl)) (fun _ _ _ _ _ => fif_nil) (fun _ _ _ _ _ => (fe_ix ix_D (snd_ix rfl) (fe_var 0) fe_int (fun _ _ => rfl)))))) (fe_callB call_len_seq (snd_len rfl) rfl Xt.n_len PySem.boot_len (fa_cons (fe_var 2) fa_nil)) (nomark _)) (fss_one (fs_ret fe_str)) fss_nil)
    (fss_one (fs_ret (fe_tup (fa_cons (fe_ix ix_D (snd_ix rfl) (fe_var 1) fe_int (fun _ _ => rfl)) (fa_cons (fe_tup (fa_cons (fe_ix ix_D (snd_ix rfl) (fe_var 1) fe_int (fun _ _ => rfl)) (fa_cons (fe_ix ix_D (snd_ix rfl) (fe_var 1) fe_int (fun _ _ => rfl)) fa_nil))) (fa_cons (fe_callTy call_tuple_of (snd_tuple rfl) rfl Xt.n_tuple boot_tuple (fa_cons (fe_var 2) fa_nil)) fa_nil)))))))))))))))

abbrev s__law_thing_of : Stmt := top 53
noncomputable def g__law_thing_of : Ev → M Fl :=
  (sSeq (sSet 1 (eFrz (eLC (srcS (eSl (eVar 0) (some (eC (.int 1))) (some (eC (.int 4))))) [] (tgN 0) bTrue (eFn 1 f__law_number [] (aCons (eVar 0) aNil)))))
  (sSeq (sIf (eT (eBin oEq (eBin oIx (eVar 0) (eC (.int 0))) (eC (.str "agree")))) (sSeq (sIf (bOr (eT (eBin oLt (eCall oLen (aCons (eVar 0) aNil)) (eC (.int 4)))) (eT (eBin (oIn false) (eC .non) (eSl (eVar 1) none (some (eC (.int 2))))))) (sRet (eC (.str "text"))) sNil)
  (sSeq (sSet 2 (eFn 1 f__law_stand_of [] (aCons (eSl (eVar 0) (some (eC (.int 3))) none) aNil)))
  (sSeq (sIf (eT (eUn (oIsB .str) (eVar 2))) (sRet (eVar 2)) sNil)
  (sSeq (sIf (bOr (eT (eBin oGt (eBin oIx (eVar 1) (eC (.int 0))) (eC (.int 2)))) (eT (eBin oGt (eBin oIx (eVar 1) (eC (.int 1))) (eC (.int 1))))) (sRet (eC (.str "text"))) sNil)
  (sRet (eTup (aCons (eC (.str "agree")) (aCons (eBin oIx (eVar 1) (eC (.int 0))) (aCons (eBin oIx (eVar 1) (eC (.int 1))) (aCons (eVar 2) aNil)))))))))) sNil)
  (sSeq (sIf (eT (eBin (oIn false) (eC .non) (eVar 1))) (sRet (eC (.str "text"))) sNil)
  (sSeq (sIf (bAnd (eT (eBin oEq (eBin oIx (eVar 0) (eC (.int 0))) (eC (.str "word")))) (bAnd (eT (eBin oEq (eCall oLen (aCons (eVar 0) aNil)) (eC (.int 2)))) (eT (eBin oLt (eBin oIx (eVar 1) (eC (.int 0))) (eC (.int 60)))))) (sRet (eTup (aCons (eC (.str "word")) (aCons (eBin oIx (eVar 1) (eC (.int 0))) aNil)))) sNil)
  (sSeq (sIf (bAnd (eT (eBin oEq (eBin oIx (eVar 0) (eC (.int 0))) (eC (.str "strike")))) (bAnd (eT (eBin oEq (eCall oLen (aCons (eVar 0) aNil)) (eC (.int 4)))) (bAnd (eT (eBin oLt (eBin oIx (eVar 1) (eC (.int 0))) (eC (.int 3)))) (bAnd (eT (eBin oLt (eBin oIx (eVar 1) (eC (.int 1))) (eC (.int 2)))) (eT (eBin oLe (eBin oIx (eVar 1) (eC (.int 2))) (eBin oPow (eC (.int 10)) (eC (.int 6))))))))) (sRet (eTup (aCons (eC (.str "strike")) (aCons (eBin oIx (eVar 1) (eC (.int 0))) (aCons (eBin oIx (eVar 1) (eC (.int 1))) (aCons (eBin oIx (eVar 1) (eC (.int 2))) aNil)))))) sNil)
  (sRet (eC (.str "text"))))))))
noncomputable def f__law_thing_of : List D → M D := hide fun ds => frz (run 3 g__law_thing_of ds)
theorem sc__law_thing_of : FnScope ["_law_words", "_law_numbers", "_law_one"] ["_law_words"] (defScope s__law_thing_of) := ⟨rfl, rfl, rfl, by decide +kernel, rfl, by decide +kernel, by decide +kernel⟩
theorem bd__law_thing_of : BD "_law_thing_of" "_law_thing_of" s__law_thing_of ["_law_words"] :=
  fun _ _ _ _ _ _ us hl => match us, hl with | [_], _ => rfl
theorem ok__law_thing_of (Xt : Txt K mg ca) : OkF ⟨K, ca⟩ P w mg base 3 "_law_thing_of" ["_law_words"] f__law_thing_of :=
  OkF.hide (OkF.frz (ok_of Xt.f__law_thing_of sc__law_thing_of fun _ _ _ _ _ _ _ hr =>
    (fss_cons (fs_setF (fs_setLC (i := 1) sc__law_thing_of.nd rfl (Or.inl rfl) (x := "_law_word") (M' := []) (ix := []) rfl ⟨rfl, rfl, rfl, rfl, rfl, rfl⟩ (fi_seq rfl (fe_slice rfl (fe_var 0) (fo_some fe_int) (fo_some fe_int))) (fun _ _ _ _ _ => fg_name (i := 0) (by show List.Nodup (("_law_word" :: []) : List Str); decide +kernel) rfl (Or.inl rfl)) (fun _ _ _ _ _ => fif_nil) (fun _ _ _ _ _ => (fe_callO (ok__law_number Xt) rfl (hr.mono (by decide)) rfl (fa_cons (fe_var 0) fa_nil)))))
    (fss_cons (fs_if (ft_cmp (op_eqD (hu9 hr)) sndD (fe_ix ix_D (snd_ix rfl) (fe_var 0) fe_int (fun _ _ => rfl)) fe_str (nomark _)) (fss_cons (fs_if (L2.PW.pt (fw_or (ft_cmp op_lt snd_lt (fe_callB call_len_seq (snd_len rfl) rfl Xt.n_len PySem.boot_len (fa_cons (fe_var 0) fa_nil)) fe_int (nomark _)) (fw_or1 (ft_cmp op_in_seq (snd_in rfl false) fe_non (fe_slice rfl (fe_var 1) fo_none (fo_some fe_int)) rfl)))) (fss_one (fs_ret fe_str)) fss_nil)
    (fss_cons (fs_set (i := 2) sc__law_thing_of.nd rfl (Or.inl rfl) (fe_callO (ok__law_stand_of Xt) rfl (hr.mono (by decide)) rfl (fa_cons (fe_slice rfl (fe_var 0) (fo_some fe_int) fo_none) fa_nil)))
    (fss_cons (fs_if (ft_val (fe_isB .str (fe_var 2) rfl Xt.n_isinstance rfl Xt.n_str boot_str)) (fss_one (fs_ret (fe_var 2))) fss_nil)
    (fss_cons (fs_if (L2.PW.pt (fw_or (ft_cmp op_gt snd_gt (fe_ix ix_D (snd_ix rfl) (fe_var 1) fe_int (fun _ _ => rfl)) fe_int (nomark _)) (fw_or1 (ft_cmp op_gt snd_gt (fe_ix ix_D (snd_ix rfl) (fe_var 1) fe_int (fun _ _ => rfl)) fe_int (nomark _))))) (fss_one (fs_ret fe_str)) fss_nil)
    (fss_one (fs_ret (fe_tup (fa_cons fe_str (fa_cons (fe_ix ix_D (snd_ix rfl) (fe_var 1) fe_int (fun _ _ => rfl)) (fa_cons (fe_ix ix_D (snd_ix rfl) (fe_var 1) fe_int (fun _ _ => rfl)) (fa_cons (fe_var 2) fa_nil))))))))))) fss_nil)
    (fss_cons (fs_if (ft_cmp op_in_seq (snd_in rfl false) fe_non (fe_var 1) rfl) (fss_one (fs_ret fe_str)) fss_nil)
    (fss_cons (fs_if (L2.PW.pt (fw_and (ft_cmp (op_eqD (hu9 hr)) sndD (fe_ix ix_D (snd_ix rfl) (fe_var 0) fe_int (fun _ _ => rfl)) fe_str (nomark _)) (fw_and (ft_cmp (op_eqD (hu9 hr)) sndD (fe_callB call_len_seq (snd_len rfl) rfl Xt.n_len PySem.boot_len (fa_cons (fe_var 0) fa_nil)) fe_int (nomark _)) (fw_and1 (ft_cmp op_lt snd_lt (fe_ix ix_D (snd_ix rfl) (fe_var 1) fe_int (fun _ _ => rfl)) fe_int (nomark _)))))) (fss_one (fs_ret (fe_tup (fa_cons fe_str (fa_cons (fe_ix ix_D (snd_ix rfl) (fe_var 1) fe_int (fun _ _ => rfl)) fa_nil))))) fss_nil)
    (fss_cons (fs_if (L2.PW.pt (fw_and (ft_cmp (op_eqD (hu9 hr)) sndD (fe_ix ix_D (snd_ix rfl) (fe_var 0) fe_int (fun _ _ => rfl)) fe_str (nomark _)) (fw_and (ft_cmp (op_eqD (hu9 hr)) sndD (fe_callB call_len_seq (snd_len rfl) rfl Xt.n_len PySem.boot_len (fa_cons (fe_var 0) fa_nil)) fe_int (nomark _)) (fw_and (ft_cmp op_lt snd_lt (fe_ix ix_D (snd_ix rfl) (fe_var 1) fe_int (fun _ _ => rfl)) fe_int (nomark _)) (fw_and (ft_cmp op_lt snd_lt (fe_ix ix_D (snd_ix rfl) (fe_var 1) fe_int (fun _ _ => rfl)) fe_int (nomark _)) (fw_and1 (ft_cmp op_le snd_le (fe_ix ix_D (snd_ix rfl) (fe_var 1) fe_int (fun _ _ => rfl)) (fe_op op_pow snd_pow fe_int fe_int) (nomark _)))))))) (fss_one (fs_ret (fe_tup (fa_cons fe_str (fa_cons (fe_ix ix_D (snd_ix rfl) (fe_var 1) fe_int (fun _ _ => rfl)) (fa_cons (fe_ix ix_D (snd_ix rfl) (fe_var 1) fe_int (fun _ _ => rfl)) (fa_cons (fe_ix ix_D (snd_ix rfl) (fe_var 1) fe_int (fun _ _ => rfl)) fa_nil))))))) fss_nil)
    (fss_one (fs_ret fe_str)))))))))

abbrev s_is_number_text : Stmt := top 32
noncomputable def g_is_number_text : Ev → M Fl :=
  (sSeq (sIf (bOr (bNot (eT (eUn (oIsB .str) (eVar 0)))) (bNot (eT (eChain oLe oLe (eC (.int 1)) (eCall oLenA (aCons (eVar 0) aNil)) (eC (.int 30)))))) (sRet (eC (.bl false))) sNil)
  (sRet (eAnd (eCall oAll (aCons (eFrz (eLC (srcT (eVar 0)) [] (tgN 0) bTrue (eBin oInS (eVar 0) (eC (.str "0123456789"))))) aNil)) (eOr (eBin oEq (eVar 0) (eC (.str "0"))) (eBin oNe (eBin oIxA (eVar 0) (eC (.int 0))) (eC (.str "0")))))))
noncomputable def f_is_number_text : List D → M D := hide fun ds => frz (run 1 g_is_number_text ds)
theorem sc_is_number_text : FnScope ["thing"] ["thing"] (defScope s_is_number_text) := ⟨rfl, rfl, rfl, by decide +kernel, rfl, by decide +kernel, by decide +kernel⟩
theorem bd_is_number_text : BD "is_number_text" "is_number_text" s_is_number_text ["thing"] :=
  fun _ _ _ _ _ _ us hl => match us, hl with | [_], _ => rfl
theorem ok_is_number_text (Xt : Txt K mg ca) : OkF ⟨K, ca⟩ P w mg base 1 "is_number_text" ["thing"] f_is_number_text :=
  OkF.hide (OkF.frz (ok_of Xt.f_is_number_text sc_is_number_text fun _ _ _ _ _ _ _ hr =>
    (fss_cons (fs_if (L2.PW.pt (fw_or (ft_not (ft_val (fe_isB .str (fe_var 0) rfl Xt.n_isinstance rfl Xt.n_str boot_str))) (fw_or1 (ft_not (ft_chain op_le snd_le op_le snd_le fe_int (fe_callB call_lenA (snd_lenA rfl) rfl Xt.n_len PySem.boot_len (fa_cons (fe_var 0) fa_nil)) (fe_globI (u := .int 30 (Xt.c_MOST_FIGURES).choose) rfl (Xt.c_MOST_FIGURES).choose_spec ⟨_, rfl⟩)))))) (fss_one (fs_ret fe_bl)) fss_nil)
    (fss_one (fs_ret (fe_and (fe_callB (call_all rfl) (snd_all rfl) rfl Xt.n_all boot_all (fa_cons (fe_frz (fe_lc (x := "sign") (M' := []) (ix := []) rfl ⟨rfl, rfl, rfl, rfl, rfl, rfl⟩ (fi_str (fe_var 0)) (fun _ _ _ _ _ => fg_name (i := 0) (by show List.Nodup (("sign" :: []) : List Str); decide +kernel) rfl (Or.inl rfl)) (fun _ _ _ _ _ => fif_nil) (fun _ _ _ _ _ => (fe_cmp op_in_str snd_inS (fe_var 0) (fe_globS (u := .str "0123456789" (Xt.c_FIGURES).choose) rfl (Xt.c_FIGURES).choose_spec ⟨_, rfl⟩) rfl)))) fa_nil)) (fe_one (fe_or (fe_cmp (op_eqD (hu9 hr)) sndD (fe_var 0) fe_str (nomark _)) (fe_one (fe_cmp (op_neD (hu9 hr)) sndD (fe_ix ix_A (snd_ixA rfl) (fe_var 0) fe_int (fun _ _ => rfl)) fe_str (nomark _)))))))))))

abbrev s_read_number : Stmt := top 33
noncomputable def g_read_number : Ev → M Fl :=
  (sSeq (sIf (bNot (eT (eFn 1 f_is_number_text [] (aCons (eVar 0) aNil)))) (sRaise 2 (aCons (eC (.str "this is no number")) aNil)) sNil)
  (sRet (eCall oIntA (aCons (eVar 0) aNil))))
noncomputable def f_read_number : List D → M D := hide fun ds => frz (run 1 g_read_number ds)
theorem sc_read_number : FnScope ["text"] ["text"] (defScope s_read_number) := ⟨rfl, rfl, rfl, by decide +kernel, rfl, by decide +kernel, by decide +kernel⟩
theorem bd_read_number : BD "read_number" "read_number" s_read_number ["text"] :=
  fun _ _ _ _ _ _ us hl => match us, hl with | [_], _ => rfl
theorem ok_read_number (Xt : Txt K mg ca) : OkF ⟨K, ca⟩ P w mg base 2 "read_number" ["text"] f_read_number :=
  OkF.hide (OkF.frz (ok_of Xt.f_read_number sc_read_number fun _ _ _ _ _ _ _ hr =>
    (fss_cons (fs_if (ft_not (ft_val (fe_callO (ok_is_number_text Xt) rfl (hr.mono (by decide)) rfl (fa_cons (fe_var 0) fa_nil)))) (fss_one (fs_raise 2 PySem.F.excBase_ValueError rfl Xt.x_NoText Xt.m_NoText rfl rfl (fa_cons fe_str fa_nil))) fss_nil)
    (fss_one (fs_ret (fe_callTy call_intA snd_intA rfl Xt.n_int boot_int (fa_cons (fe_var 0) fa_nil)))))))

abbrev s_read_numbers : Stmt := top 34
noncomputable def g_read_numbers : Ev → M Fl :=
  (sSeq (sIf (eT (eBin oNe (eCall oLen (aCons (eVar 0) aNil)) (eVar 1))) (sRaise 2 (aCons (eC (.str "there are too many or too few numbers")) aNil)) sNil)
  (sRet (eFrz (eLCX (srcS (eVar 0)) [] (tgN 0) bTrue (eFn 1 f_read_number [] (aCons (eVar 0) aNil))))))
noncomputable def f_read_numbers : List D → M D := hide fun ds => frz (run 2 g_read_numbers ds)
theorem sc_read_numbers : FnScope ["texts", "count"] ["texts", "count"] (defScope s_read_numbers) := ⟨rfl, rfl, rfl, by decide +kernel, rfl, by decide +kernel, by decide +kernel⟩
theorem bd_read_numbers : BD "read_numbers" "read_numbers" s_read_numbers ["texts", "count"] :=
  fun _ _ _ _ _ _ us hl => match us, hl with | [_, _], _ => rfl
theorem ok_read_numbers (Xt : Txt K mg ca) : OkF ⟨K, ca⟩ P w mg base 3 "read_numbers" ["texts", "count"] f_read_numbers :=
  OkF.hide (OkF.frz (ok_of Xt.f_read_numbers sc_read_numbers fun _ _ _ _ _ _ _ hr =>
    (fss_cons (fs_if (ft_cmp (op_neD (hu9 hr)) sndD (fe_callB call_len_seq (snd_len rfl) rfl Xt.n_len PySem.boot_len (fa_cons (fe_var 0) fa_nil)) (fe_var 1) (nomark _)) (fss_one (fs_raise 2 PySem.F.excBase_ValueError rfl Xt.x_NoText Xt.m_NoText rfl rfl (fa_cons fe_str fa_nil))) fss_nil)
    (fss_one (fs_ret (fe_frz (fe_lcX (x := "text") (M' := []) (ix := []) rfl rfl rfl ⟨rfl, rfl, rfl, rfl, rfl, rfl⟩ (fi_seq rfl (fe_var 0)) (fun _ _ _ _ _ _ => fg_name (i := 0) (by show List.Nodup (("text" :: []) : List Str); decide +kernel) rfl (Or.inl rfl)) (fun _ _ _ _ _ _ => fif_nil) (fun _ _ _ _ _ _ => (fe_callO (ok_read_number Xt) rfl (hr.mono (by decide)) rfl (fa_cons (fe_var 0) fa_nil))))))))))

abbrev s_split_at : Stmt := top 35
noncomputable def g_split_at : Ev → M Fl :=
  (sSeq (sIf (bNot (eT (eUn (oIsB .str) (eVar 0)))) (sRaise 2 (aCons (eC (.str "this is no text")) aNil)) sNil)
  (sRet (eMethS oSplit (eVar 0) (aCons (eVar 1) aNil))))
noncomputable def f_split_at : List D → M D := hide fun ds => frz (run 2 g_split_at ds)
theorem sc_split_at : FnScope ["text", "sign"] ["text", "sign"] (defScope s_split_at) := ⟨rfl, rfl, rfl, by decide +kernel, rfl, by decide +kernel, by decide +kernel⟩
theorem bd_split_at : BD "split_at" "split_at" s_split_at ["text", "sign"] :=
  fun _ _ _ _ _ _ us hl => match us, hl with | [_, _], _ => rfl
theorem ok_split_at (Xt : Txt K mg ca) : OkF ⟨K, ca⟩ P w mg base 1 "split_at" ["text", "sign"] f_split_at :=
  OkF.hide (OkF.frz (ok_of Xt.f_split_at sc_split_at fun _ _ _ _ _ _ _ hr =>
    (fss_cons (fs_if (ft_not (ft_val (fe_isB .str (fe_var 0) rfl Xt.n_isinstance rfl Xt.n_str boot_str))) (fss_one (fs_raise 2 PySem.F.excBase_ValueError rfl Xt.x_NoText Xt.m_NoText rfl rfl (fa_cons fe_str fa_nil))) fss_nil)
    (fss_one (fs_ret (fe_methS PySem.F.plainAttrs_str PySem.F.slot_str_split PySem.F.type_str_split mt_split snd_split (fe_var 0) (fa_cons (fe_var 1) fa_nil)))))))

abbrev s_read_tie : Stmt := top 36
noncomputable def g_read_tie : Ev → M Fl :=
  (sRet (eCall oTuple (aCons (eFn 2 f_read_numbers [] (aCons (eFn 2 f_split_at [] (aCons (eVar 0) (aCons (eC (.str "/")) aNil))) (aCons (eC (.int 4)) aNil))) aNil)))
noncomputable def f_read_tie : List D → M D := hide fun ds => frz (run 1 g_read_tie ds)
theorem sc_read_tie : FnScope ["text"] ["text"] (defScope s_read_tie) := ⟨rfl, rfl, rfl, by decide +kernel, rfl, by decide +kernel, by decide +kernel⟩
theorem bd_read_tie : BD "read_tie" "read_tie" s_read_tie ["text"] :=
  fun _ _ _ _ _ _ us hl => match us, hl with | [_], _ => rfl
theorem ok_read_tie (Xt : Txt K mg ca) : OkF ⟨K, ca⟩ P w mg base 4 "read_tie" ["text"] f_read_tie :=
  OkF.hide (OkF.frz (ok_of Xt.f_read_tie sc_read_tie fun _ _ _ _ _ _ _ hr =>
    (fss_one (fs_ret (fe_callTy call_tuple_of (snd_tuple rfl) rfl Xt.n_tuple boot_tuple (fa_cons (fe_callO (ok_read_numbers Xt) rfl (hr.mono (by decide)) rfl (fa_cons (fe_callO (ok_split_at Xt) rfl (hr.mono (by decide)) rfl (fa_cons (fe_var 0) (fa_cons fe_str fa_nil))) (fa_cons fe_int fa_nil))) fa_nil))))))

abbrev s_is_whole : Stmt := top 10
noncomputable def g_is_whole : Ev → M Fl :=
  (sRet (eAnd (eUn (oIsB .int) (eVar 0)) (eNot (eUn (oIsB .bool) (eVar 0)))))
noncomputable def f_is_whole : List D → M D := hide fun ds => frz (run 1 g_is_whole ds)
theorem sc_is_whole : FnScope ["thing"] ["thing"] (defScope s_is_whole) := ⟨rfl, rfl, rfl, by decide +kernel, rfl, by decide +kernel, by decide +kernel⟩
theorem bd_is_whole : BD "is_whole" "is_whole" s_is_whole ["thing"] :=
  fun _ _ _ _ _ _ us hl => match us, hl with | [_], _ => rfl
theorem ok_is_whole (Xt : Txt K mg ca) : OkF ⟨K, ca⟩ P w mg base 1 "is_whole" ["thing"] f_is_whole :=
  OkF.hide (OkF.frz (ok_of Xt.f_is_whole sc_is_whole fun _ _ _ _ _ _ _ hr =>
    (fss_one (fs_ret (fe_and (fe_isB .int (fe_var 0) rfl Xt.n_isinstance rfl Xt.n_int boot_int) (fe_one (fe_not (fe_isB .bool (fe_var 0) rfl Xt.n_isinstance rfl Xt.n_bool boot_bool))))))))

abbrev s_is_between : Stmt := top 11
noncomputable def g_is_between : Ev → M Fl :=
  (sRet (eAnd (eFn 1 f_is_whole [] (aCons (eVar 0) aNil)) (eChain oLe oLe (eVar 1) (eVar 0) (eVar 2))))
noncomputable def f_is_between : List D → M D := hide fun ds => frz (run 3 g_is_between ds)
theorem sc_is_between : FnScope ["thing", "least", "most"] ["thing", "least", "most"] (defScope s_is_between) := ⟨rfl, rfl, rfl, by decide +kernel, rfl, by decide +kernel, by decide +kernel⟩
theorem bd_is_between : BD "is_between" "is_between" s_is_between ["thing", "least", "most"] :=
  fun _ _ _ _ _ _ us hl => match us, hl with | [_, _, _], _ => rfl
theorem ok_is_between (Xt : Txt K mg ca) : OkF ⟨K, ca⟩ P w mg base 2 "is_between" ["thing", "least", "most"] f_is_between :=
  OkF.hide (OkF.frz (ok_of Xt.f_is_between sc_is_between fun _ _ _ _ _ _ _ hr =>
    (fss_one (fs_ret (fe_and (fe_callO (ok_is_whole Xt) rfl (hr.mono (by decide)) rfl (fa_cons (fe_var 0) fa_nil)) (fe_one (fe_chain op_le snd_le op_le snd_le (fe_var 1) (fe_var 0) (fe_var 2))))))))

abbrev s_is_day : Stmt := top 14
noncomputable def g_is_day : Ev → M Fl :=
  (sRet (eFn 3 f_is_between [] (aCons (eVar 0) (aCons (eC (.int 0)) (aCons (eC (.int 1000000)) aNil)))))
noncomputable def f_is_day : List D → M D := hide fun ds => frz (run 1 g_is_day ds)
theorem sc_is_day : FnScope ["thing"] ["thing"] (defScope s_is_day) := ⟨rfl, rfl, rfl, by decide +kernel, rfl, by decide +kernel, by decide +kernel⟩
theorem bd_is_day : BD "is_day" "is_day" s_is_day ["thing"] :=
  fun _ _ _ _ _ _ us hl => match us, hl with | [_], _ => rfl
theorem ok_is_day (Xt : Txt K mg ca) : OkF ⟨K, ca⟩ P w mg base 3 "is_day" ["thing"] f_is_day :=
  OkF.hide (OkF.frz (ok_of Xt.f_is_day sc_is_day fun _ _ _ _ _ _ _ hr =>
    (fss_one (fs_ret (fe_callO (ok_is_between Xt) rfl (hr.mono (by decide)) rfl (fa_cons (fe_var 0) (fa_cons fe_int (fa_cons (fe_globI (u := .int 1000000 (Xt.c_MOST_DAY).choose) rfl (Xt.c_MOST_DAY).choose_spec ⟨_, rfl⟩) fa_nil))))))))

abbrev s_is_word : Stmt := top 13
noncomputable def g_is_word : Ev → M Fl :=
  (sRet (eFn 3 f_is_between [] (aCons (eVar 0) (aCons (eC (.int 0)) (aCons (eC (.int 59)) aNil)))))
noncomputable def f_is_word : List D → M D := hide fun ds => frz (run 1 g_is_word ds)
theorem sc_is_word : FnScope ["thing"] ["thing"] (defScope s_is_word) := ⟨rfl, rfl, rfl, by decide +kernel, rfl, by decide +kernel, by decide +kernel⟩
theorem bd_is_word : BD "is_word" "is_word" s_is_word ["thing"] :=
  fun _ _ _ _ _ _ us hl => match us, hl with | [_], _ => rfl
theorem ok_is_word (Xt : Txt K mg ca) : OkF ⟨K, ca⟩ P w mg base 3 "is_word" ["thing"] f_is_word :=
  OkF.hide (OkF.frz (ok_of Xt.f_is_word sc_is_word fun _ _ _ _ _ _ _ hr =>
    (fss_one (fs_ret (fe_callO (ok_is_between Xt) rfl (hr.mono (by decide)) rfl (fa_cons (fe_var 0) (fa_cons fe_int (fa_cons (fe_globI (u := .int 59 (Xt.c_MOST_WORD).choose) rfl (Xt.c_MOST_WORD).choose_spec ⟨_, rfl⟩) fa_nil))))))))

abbrev s_is_amount : Stmt := top 16
noncomputable def g_is_amount : Ev → M Fl :=
  (sRet (eFn 3 f_is_between [] (aCons (eVar 0) (aCons (eC (.int 1)) (aCons (eC (.int 1000000000000)) aNil)))))
noncomputable def f_is_amount : List D → M D := hide fun ds => frz (run 1 g_is_amount ds)
theorem sc_is_amount : FnScope ["thing"] ["thing"] (defScope s_is_amount) := ⟨rfl, rfl, rfl, by decide +kernel, rfl, by decide +kernel, by decide +kernel⟩
theorem bd_is_amount : BD "is_amount" "is_amount" s_is_amount ["thing"] :=
  fun _ _ _ _ _ _ us hl => match us, hl with | [_], _ => rfl
theorem ok_is_amount (Xt : Txt K mg ca) : OkF ⟨K, ca⟩ P w mg base 3 "is_amount" ["thing"] f_is_amount :=
  OkF.hide (OkF.frz (ok_of Xt.f_is_amount sc_is_amount fun _ _ _ _ _ _ _ hr =>
    (fss_one (fs_ret (fe_callO (ok_is_between Xt) rfl (hr.mono (by decide)) rfl (fa_cons (fe_var 0) (fa_cons fe_int (fa_cons (fe_globI (u := .int 1000000000000 (Xt.c_MOST_AMOUNT).choose) rfl (Xt.c_MOST_AMOUNT).choose_spec ⟨_, rfl⟩) fa_nil))))))))

abbrev s_is_side : Stmt := top 12
noncomputable def g_is_side : Ev → M Fl :=
  (sRet (eFn 3 f_is_between [] (aCons (eVar 0) (aCons (eC (.int 0)) (aCons (eC (.int 1)) aNil)))))
noncomputable def f_is_side : List D → M D := hide fun ds => frz (run 1 g_is_side ds)
theorem sc_is_side : FnScope ["thing"] ["thing"] (defScope s_is_side) := ⟨rfl, rfl, rfl, by decide +kernel, rfl, by decide +kernel, by decide +kernel⟩
theorem bd_is_side : BD "is_side" "is_side" s_is_side ["thing"] :=
  fun _ _ _ _ _ _ us hl => match us, hl with | [_], _ => rfl
theorem ok_is_side (Xt : Txt K mg ca) : OkF ⟨K, ca⟩ P w mg base 3 "is_side" ["thing"] f_is_side :=
  OkF.hide (OkF.frz (ok_of Xt.f_is_side sc_is_side fun _ _ _ _ _ _ _ hr =>
    (fss_one (fs_ret (fe_callO (ok_is_between Xt) rfl (hr.mono (by decide)) rfl (fa_cons (fe_var 0) (fa_cons fe_int (fa_cons fe_int fa_nil))))))))

abbrev s_is_tie : Stmt := top 21
noncomputable def g_is_tie : Ev → M Fl :=
  (sRet (eAnd (eUn (oIsB .tuple) (eVar 0)) (eAnd (eBin oEq (eCall oLen (aCons (eVar 0) aNil)) (eC (.int 4))) (eAnd (eFn 1 f_is_side [] (aCons (eBin oIx (eVar 0) (eC (.int 0))) aNil)) (eAnd (eFn 1 f_is_amount [] (aCons (eBin oIx (eVar 0) (eC (.int 1))) aNil)) (eAnd (eFn 1 f_is_word [] (aCons (eBin oIx (eVar 0) (eC (.int 2))) aNil)) (eFn 1 f_is_day [] (aCons (eBin oIx (eVar 0) (eC (.int 3))) aNil))))))))
noncomputable def f_is_tie : List D → M D := hide fun ds => frz (run 1 g_is_tie ds)
theorem sc_is_tie : FnScope ["thing"] ["thing"] (defScope s_is_tie) := ⟨rfl, rfl, rfl, by decide +kernel, rfl, by decide +kernel, by decide +kernel⟩
theorem bd_is_tie : BD "is_tie" "is_tie" s_is_tie ["thing"] :=
  fun _ _ _ _ _ _ us hl => match us, hl with | [_], _ => rfl
theorem ok_is_tie (Xt : Txt K mg ca) : OkF ⟨K, ca⟩ P w mg base 4 "is_tie" ["thing"] f_is_tie :=
  OkF.hide (OkF.frz (ok_of Xt.f_is_tie sc_is_tie fun _ _ _ _ _ _ _ hr =>
    (fss_one (fs_ret (fe_and (fe_isB .tuple (fe_var 0) rfl Xt.n_isinstance rfl Xt.n_tuple boot_tuple) (fe_and (fe_cmp (op_eqD (hu9 hr)) sndD (fe_callB call_len_seq (snd_len rfl) rfl Xt.n_len PySem.boot_len (fa_cons (fe_var 0) fa_nil)) fe_int (nomark _)) (fe_and (fe_callO (ok_is_side Xt) rfl (hr.mono (by decide)) rfl (fa_cons (fe_ix ix_D (snd_ix rfl) (fe_var 0) fe_int (fun _ _ => rfl)) fa_nil)) (fe_and (fe_callO (ok_is_amount Xt) rfl (hr.mono (by decide)) rfl (fa_cons (fe_ix ix_D (snd_ix rfl) (fe_var 0) fe_int (fun _ _ => rfl)) fa_nil)) (fe_and (fe_callO (ok_is_word Xt) rfl (hr.mono (by decide)) rfl (fa_cons (fe_ix ix_D (snd_ix rfl) (fe_var 0) fe_int (fun _ _ => rfl)) fa_nil)) (fe_one (fe_callO (ok_is_day Xt) rfl (hr.mono (by decide)) rfl (fa_cons (fe_ix ix_D (snd_ix rfl) (fe_var 0) fe_int (fun _ _ => rfl)) fa_nil))))))))))))

abbrev s_are_ties : Stmt := top 23
noncomputable def g_are_ties : Ev → M Fl :=
  (sSeq (sIf (bOr (bNot (eT (eUn (oIsB .tuple) (eVar 0)))) (eT (eBin oGt (eCall oLen (aCons (eVar 0) aNil)) (eC (.int 6))))) (sRet (eC (.bl false))) sNil)
  (sSeq (sIf (bNot (eT (eCall oAll (aCons (eFrz (eLC (srcS (eVar 0)) [] (tgN 0) bTrue (eFn 1 f_is_tie [] (aCons (eVar 0) aNil)))) aNil)))) (sRet (eC (.bl false))) sNil)
  (sRet (eBin oEq (eUn oLenSet (eFrz (eLC (srcS (eVar 0)) [] (tgN 0) bTrue (eBin oIx (eVar 0) (eC (.int 2)))))) (eCall oLen (aCons (eVar 0) aNil))))))
noncomputable def f_are_ties : List D → M D := hide fun ds => frz (run 1 g_are_ties ds)
theorem sc_are_ties : FnScope ["thing"] ["thing"] (defScope s_are_ties) := ⟨rfl, rfl, rfl, by decide +kernel, rfl, by decide +kernel, by decide +kernel⟩
theorem bd_are_ties : BD "are_ties" "are_ties" s_are_ties ["thing"] :=
  fun _ _ _ _ _ _ us hl => match us, hl with | [_], _ => rfl
theorem ok_are_ties (Xt : Txt K mg ca) : OkF ⟨K, ca⟩ P w mg base 5 "are_ties" ["thing"] f_are_ties :=
  OkF.hide (OkF.frz (ok_of Xt.f_are_ties sc_are_ties fun _ _ _ _ _ _ _ hr =>
    (fss_cons (fs_if (L2.PW.pt (fw_or (ft_not (ft_val (fe_isB .tuple (fe_var 0) rfl Xt.n_isinstance rfl Xt.n_tuple boot_tuple))) (fw_or1 (ft_cmp op_gt snd_gt (fe_callB call_len_seq (snd_len rfl) rfl Xt.n_len PySem.boot_len (fa_cons (fe_var 0) fa_nil)) (fe_globI (u := .int 6 (Xt.c_MOST_TIES).choose) rfl (Xt.c_MOST_TIES).choose_spec ⟨_, rfl⟩) (nomark _))))) (fss_one (fs_ret fe_bl)) fss_nil)
    (fss_cons (fs_if (ft_not (ft_val (fe_callB (call_all rfl) (snd_all rfl) rfl Xt.n_all boot_all (fa_cons (fe_frz (fe_lc (x := "tie") (M' := []) (ix := []) rfl ⟨rfl, rfl, rfl, rfl, rfl, rfl⟩ (fi_seq rfl (fe_var 0)) (fun _ _ _ _ _ => fg_name (i := 0) (by show List.Nodup (("tie" :: []) : List Str); decide +kernel) rfl (Or.inl rfl)) (fun _ _ _ _ _ => fif_nil) (fun _ _ _ _ _ => (fe_callO (ok_is_tie Xt) rfl (hr.mono (by decide)) rfl (fa_cons (fe_var 0) fa_nil))))) fa_nil)))) (fss_one (fs_ret fe_bl)) fss_nil)
    (fss_one (fs_ret (fe_cmp (op_eqD (hu9 hr)) sndD (fe_lenSet rfl rfl rfl Xt.n_len rfl Xt.n_set (fe_frz (fe_lc (x := "tie") (M' := []) (ix := []) rfl ⟨rfl, rfl, rfl, rfl, rfl, rfl⟩ (fi_seq rfl (fe_var 0)) (fun _ _ _ _ _ => fg_name (i := 0) (by show List.Nodup (("tie" :: []) : List Str); decide +kernel) rfl (Or.inl rfl)) (fun _ _ _ _ _ => fif_nil) (fun _ _ _ _ _ => (fe_ix ix_D (snd_ix rfl) (fe_var 0) fe_int (fun _ _ => rfl)))))) (fe_callB call_len_seq (snd_len rfl) rfl Xt.n_len PySem.boot_len (fa_cons (fe_var 0) fa_nil)) (nomark _))))))))

abbrev s_are_shares : Stmt := top 22
noncomputable def g_are_shares : Ev → M Fl :=
  (sRet (eAnd (eUn (oIsB .tuple) (eVar 0)) (eAnd (eBin oEq (eCall oLen (aCons (eVar 0) aNil)) (eC (.int 2))) (eAnd (eFn 3 f_is_between [] (aCons (eBin oIx (eVar 0) (eC (.int 0))) (aCons (eC (.int 0)) (aCons (eC (.int 2000000000000)) aNil)))) (eFn 3 f_is_between [] (aCons (eBin oIx (eVar 0) (eC (.int 1))) (aCons (eC (.int 0)) (aCons (eC (.int 2000000000000)) aNil))))))))
noncomputable def f_are_shares : List D → M D := hide fun ds => frz (run 1 g_are_shares ds)
theorem sc_are_shares : FnScope ["thing"] ["thing"] (defScope s_are_shares) := ⟨rfl, rfl, rfl, by decide +kernel, rfl, by decide +kernel, by decide +kernel⟩
theorem bd_are_shares : BD "are_shares" "are_shares" s_are_shares ["thing"] :=
  fun _ _ _ _ _ _ us hl => match us, hl with | [_], _ => rfl
theorem ok_are_shares (Xt : Txt K mg ca) : OkF ⟨K, ca⟩ P w mg base 3 "are_shares" ["thing"] f_are_shares :=
  OkF.hide (OkF.frz (ok_of Xt.f_are_shares sc_are_shares fun _ _ _ _ _ _ _ hr =>
    (fss_one (fs_ret (fe_and (fe_isB .tuple (fe_var 0) rfl Xt.n_isinstance rfl Xt.n_tuple boot_tuple) (fe_and (fe_cmp (op_eqD (hu9 hr)) sndD (fe_callB call_len_seq (snd_len rfl) rfl Xt.n_len PySem.boot_len (fa_cons (fe_var 0) fa_nil)) fe_int (nomark _)) (fe_and (fe_callO (ok_is_between Xt) rfl (hr.mono (by decide)) rfl (fa_cons (fe_ix ix_D (snd_ix rfl) (fe_var 0) fe_int (fun _ _ => rfl)) (fa_cons fe_int (fa_cons (fe_globI (u := .int 2000000000000 (Xt.c_MOST_SHARE).choose) rfl (Xt.c_MOST_SHARE).choose_spec ⟨_, rfl⟩) fa_nil)))) (fe_one (fe_callO (ok_is_between Xt) rfl (hr.mono (by decide)) rfl (fa_cons (fe_ix ix_D (snd_ix rfl) (fe_var 0) fe_int (fun _ _ => rfl)) (fa_cons fe_int (fa_cons (fe_globI (u := .int 2000000000000 (Xt.c_MOST_SHARE).choose) rfl (Xt.c_MOST_SHARE).choose_spec ⟨_, rfl⟩) fa_nil))))))))))))

abbrev s_is_number : Stmt := top 15
noncomputable def g_is_number : Ev → M Fl :=
  (sRet (eFn 3 f_is_between [] (aCons (eVar 0) (aCons (eC (.int 0)) (aCons (eC (.int 1000000)) aNil)))))
noncomputable def f_is_number : List D → M D := hide fun ds => frz (run 1 g_is_number ds)
theorem sc_is_number : FnScope ["thing"] ["thing"] (defScope s_is_number) := ⟨rfl, rfl, rfl, by decide +kernel, rfl, by decide +kernel, by decide +kernel⟩
theorem bd_is_number : BD "is_number" "is_number" s_is_number ["thing"] :=
  fun _ _ _ _ _ _ us hl => match us, hl with | [_], _ => rfl
theorem ok_is_number (Xt : Txt K mg ca) : OkF ⟨K, ca⟩ P w mg base 3 "is_number" ["thing"] f_is_number :=
  OkF.hide (OkF.frz (ok_of Xt.f_is_number sc_is_number fun _ _ _ _ _ _ _ hr =>
    (fss_one (fs_ret (fe_callO (ok_is_between Xt) rfl (hr.mono (by decide)) rfl (fa_cons (fe_var 0) (fa_cons fe_int (fa_cons (fe_globI (u := .int 1000000 (Xt.c_MOST_NUMBER).choose) rfl (Xt.c_MOST_NUMBER).choose_spec ⟨_, rfl⟩) fa_nil))))))))

abbrev s_is_stand : Stmt := top 24
noncomputable def g_is_stand : Ev → M Fl :=
  (sRet (eAnd (eUn (oIsB .tuple) (eVar 0)) (eAnd (eBin oEq (eCall oLen (aCons (eVar 0) aNil)) (eC (.int 3))) (eAnd (eFn 1 f_is_number [] (aCons (eBin oIx (eVar 0) (eC (.int 0))) aNil)) (eAnd (eFn 1 f_are_shares [] (aCons (eBin oIx (eVar 0) (eC (.int 1))) aNil)) (eFn 1 f_are_ties [] (aCons (eBin oIx (eVar 0) (eC (.int 2))) aNil)))))))
noncomputable def f_is_stand : List D → M D := hide fun ds => frz (run 1 g_is_stand ds)
theorem sc_is_stand : FnScope ["thing"] ["thing"] (defScope s_is_stand) := ⟨rfl, rfl, rfl, by decide +kernel, rfl, by decide +kernel, by decide +kernel⟩
theorem bd_is_stand : BD "is_stand" "is_stand" s_is_stand ["thing"] :=
  fun _ _ _ _ _ _ us hl => match us, hl with | [_], _ => rfl
theorem ok_is_stand (Xt : Txt K mg ca) : OkF ⟨K, ca⟩ P w mg base 6 "is_stand" ["thing"] f_is_stand :=
  OkF.hide (OkF.frz (ok_of Xt.f_is_stand sc_is_stand fun _ _ _ _ _ _ _ hr =>
    (fss_one (fs_ret (fe_and (fe_isB .tuple (fe_var 0) rfl Xt.n_isinstance rfl Xt.n_tuple boot_tuple) (fe_and (fe_cmp (op_eqD (hu9 hr)) sndD (fe_callB call_len_seq (snd_len rfl) rfl Xt.n_len PySem.boot_len (fa_cons (fe_var 0) fa_nil)) fe_int (nomark _)) (fe_and (fe_callO (ok_is_number Xt) rfl (hr.mono (by decide)) rfl (fa_cons (fe_ix ix_D (snd_ix rfl) (fe_var 0) fe_int (fun _ _ => rfl)) fa_nil)) (fe_and (fe_callO (ok_are_shares Xt) rfl (hr.mono (by decide)) rfl (fa_cons (fe_ix ix_D (snd_ix rfl) (fe_var 0) fe_int (fun _ _ => rfl)) fa_nil)) (fe_one (fe_callO (ok_are_ties Xt) rfl (hr.mono (by decide)) rfl (fa_cons (fe_ix ix_D (snd_ix rfl) (fe_var 0) fe_int (fun _ _ => rfl)) fa_nil)))))))))))

abbrev s_stand : Stmt := top 25
noncomputable def g_stand : Ev → M Fl :=
  (sSeq (sSet 3 (eTup (aCons (eVar 0) (aCons (eVar 1) (aCons (eIf (eT (eBin oIsN (eVar 2) (eC .non))) (eTup aNil) (eVar 2)) aNil)))))
  (sSeq (sIf (bNot (eT (eFn 1 f_is_stand [] (aCons (eVar 3) aNil)))) (sRaise 1 (aCons (eC (.str "number, shares and ties make no stand")) aNil)) sNil)
  (sRet (eVar 3))))
noncomputable def f_stand : List D → M D := hide fun ds => frz (run 4 g_stand ds)
theorem sc_stand : FnScope ["number", "shares", "ties", "made"] ["number", "shares", "ties"] (defScope s_stand) := ⟨rfl, rfl, rfl, by decide +kernel, rfl, by decide +kernel, by decide +kernel⟩
theorem bd_stand (t : Addr) (kV doc pm : Value) (an : Option Addr) (cdv ct : Value) (s : Shared) (o : Obj) (n : Nat) (us : List Value) (h1 : s.heap.get? t = some o) (h2 : o.data = .seq ([Value.none] : List Value).toArray n) :
    ((us ++ []).length = (["number", "shares", "ties"] : List Str).length → BindsTo s (PySem.W.fnOf "stand" "stand" (defArgs s_stand) (defBody s_stand) (defScope s_stand) (.ref t) kV doc pm an cdv ct) ⟨us, []⟩ ((["number", "shares", "ties"] : List Str).zip (us ++ []))) ∧
    ((us ++ [Value.none]).length = (["number", "shares", "ties"] : List Str).length → BindsTo s (PySem.W.fnOf "stand" "stand" (defArgs s_stand) (defBody s_stand) (defScope s_stand) (.ref t) kV doc pm an cdv ct) ⟨us, []⟩ ((["number", "shares", "ties"] : List Str).zip (us ++ [Value.none]))) :=
  ⟨fun hl => match us, (show us.length = 3 by simpa using hl) with | [_, _, _], _ => BindsTo.of_defaults rfl h1 h2 rfl rfl, fun hl => match us, (show us.length = 2 by simpa using hl) with | [_, _], _ => BindsTo.of_defaults rfl h1 h2 rfl rfl⟩
theorem ok_stand (Xt : Txt K mg ca) : OkD ⟨K, ca⟩ P w mg base 7 "stand" ["number", "shares", "ties"] [Value.none] f_stand :=
  OkD.hide (OkD.frz (ok_ofD Xt.f_stand sc_stand fun _ _ _ _ _ _ _ hr =>
    (fss_cons (fs_set (i := 3) sc_stand.nd rfl (Or.inl rfl) (fe_tup (fa_cons (fe_var 0) (fa_cons (fe_var 1) (fa_cons (fe_ifExp (ft_cmp op_isN snd_isN (fe_var 2) fe_non (nomark _)) (fe_tup fa_nil) (fe_var 2)) fa_nil)))))
    (fss_cons (fs_if (ft_not (ft_val (fe_callO (ok_is_stand Xt) rfl (hr.mono (by decide)) rfl (fa_cons (fe_var 3) fa_nil)))) (fss_one (fs_raise 1 PySem.F.excBase_ValueError rfl Xt.x_NoStand Xt.m_NoStand rfl rfl (fa_cons fe_str fa_nil))) fss_nil)
    (fss_one (fs_ret (fe_var 3)))))))

abbrev s_read_stand : Stmt := top 37
noncomputable def g_read_stand : Ev → M Fl :=
  (sSeq (sSet 1 (eFn 2 f_split_at [] (aCons (eVar 0) (aCons (eC (.str " ")) aNil))))
  (sSeq (sSet 2 (eFn 2 f_read_numbers [] (aCons (eSl (eVar 1) none (some (eC (.int 3)))) (aCons (eC (.int 3)) aNil))))
  (sSeq (sSet 3 (eCall oTuple (aCons (eFrz (eLCX (srcS (eSl (eVar 1) (some (eC (.int 3))) none)) [] (tgN 0) bTrue (eFn 1 f_read_tie [] (aCons (eVar 0) aNil)))) aNil)))
  (sRet (eFn 3 f_stand [] (aCons (eBin oIx (eVar 2) (eC (.int 0))) (aCons (eTup (aCons (eBin oIx (eVar 2) (eC (.int 1))) (aCons (eBin oIx (eVar 2) (eC (.int 2))) aNil))) (aCons (eVar 3) aNil))))))))
noncomputable def f_read_stand : List D → M D := hide fun ds => frz (run 4 g_read_stand ds)
theorem sc_read_stand : FnScope ["text", "parts", "numbers", "ties"] ["text"] (defScope s_read_stand) := ⟨rfl, rfl, rfl, by decide +kernel, rfl, by decide +kernel, by decide +kernel⟩
theorem bd_read_stand : BD "read_stand" "read_stand" s_read_stand ["text"] :=
  fun _ _ _ _ _ _ us hl => match us, hl with | [_], _ => rfl
theorem ok_read_stand (Xt : Txt K mg ca) : OkF ⟨K, ca⟩ P w mg base 8 "read_stand" ["text"] f_read_stand :=
  OkF.hide (OkF.frz (ok_of Xt.f_read_stand sc_read_stand fun _ _ _ _ _ _ _ hr =>
    (fss_cons (fs_set (i := 1) sc_read_stand.nd rfl (Or.inl rfl) (fe_callO (ok_split_at Xt) rfl (hr.mono (by decide)) rfl (fa_cons (fe_var 0) (fa_cons fe_str fa_nil))))
    (fss_cons (fs_set (i := 2) sc_read_stand.nd rfl (Or.inl rfl) (fe_callO (ok_read_numbers Xt) rfl (hr.mono (by decide)) rfl (fa_cons (fe_slice rfl (fe_var 1) fo_none (fo_some fe_int)) (fa_cons fe_int fa_nil))))
    (fss_cons (fs_set (i := 3) sc_read_stand.nd rfl (Or.inl rfl) (fe_callTy call_tuple_of (snd_tuple rfl) rfl Xt.n_tuple boot_tuple (fa_cons (fe_frz (fe_lcX (x := "part") (M' := []) (ix := []) rfl rfl rfl ⟨rfl, rfl, rfl, rfl, rfl, rfl⟩ (fi_seq rfl (fe_slice rfl (fe_var 1) (fo_some fe_int) fo_none)) (fun _ _ _ _ _ _ => fg_name (i := 0) (by show List.Nodup (("part" :: []) : List Str); decide +kernel) rfl (Or.inl rfl)) (fun _ _ _ _ _ _ => fif_nil) (fun _ _ _ _ _ _ => (fe_callO (ok_read_tie Xt) rfl (hr.mono (by decide)) rfl (fa_cons (fe_var 0) fa_nil))))) fa_nil)))
    (fss_one (fs_ret (fe_callD0 (ok_stand Xt) rfl (hr.mono (by decide)) rfl (fa_cons (fe_ix ix_D (snd_ix rfl) (fe_var 2) fe_int (fun _ _ => rfl)) (fa_cons (fe_tup (fa_cons (fe_ix ix_D (snd_ix rfl) (fe_var 2) fe_int (fun _ _ => rfl)) (fa_cons (fe_ix ix_D (snd_ix rfl) (fe_var 2) fe_int (fun _ _ => rfl)) fa_nil))) (fa_cons (fe_var 3) fa_nil)))))))))))

abbrev s_read_parts : Stmt := top 38
noncomputable def g_read_parts : Ev → M Fl :=
  (sSeq (sIf (eT (eBin oEq (eBin oIx (eVar 0) (eC (.int 0))) (eC (.str "word")))) (sRet (eTup (aCons (eC (.str "word")) (aCons (eBin oIx (eFn 2 f_read_numbers [] (aCons (eSl (eVar 0) (some (eC (.int 1))) none) (aCons (eC (.int 1)) aNil))) (eC (.int 0))) aNil)))) sNil)
  (sSeq (sIf (eT (eBin oEq (eBin oIx (eVar 0) (eC (.int 0))) (eC (.str "strike")))) (sRet (eCall oTuple (aCons (eBin oAdd (eLv (aCons (eC (.str "strike")) aNil)) (eFn 2 f_read_numbers [] (aCons (eSl (eVar 0) (some (eC (.int 1))) none) (aCons (eC (.int 3)) aNil)))) aNil))) sNil)
  (sSeq (sIf (eT (eBin oEq (eBin oIx (eVar 0) (eC (.int 0))) (eC (.str "agree")))) (sSeq (sSet 1 (eFn 2 f_read_numbers [] (aCons (eSl (eVar 0) (some (eC (.int 1))) (some (eC (.int 3)))) (aCons (eC (.int 2)) aNil))))
  (sRet (eTup (aCons (eC (.str "agree")) (aCons (eBin oIx (eVar 1) (eC (.int 0))) (aCons (eBin oIx (eVar 1) (eC (.int 1))) (aCons (eFn 1 f_read_stand [] (aCons (eMethS oJoin (eC (.str " ")) (aCons (eSl (eVar 0) (some (eC (.int 3))) none) aNil)) aNil)) aNil))))))) sNil)
  (sRaise 2 (aCons (eC (.str "no thing is written so")) aNil)))))
noncomputable def f_read_parts : List D → M D := hide fun ds => frz (run 2 g_read_parts ds)
theorem sc_read_parts : FnScope ["parts", "numbers"] ["parts"] (defScope s_read_parts) := ⟨rfl, rfl, rfl, by decide +kernel, rfl, by decide +kernel, by decide +kernel⟩
theorem bd_read_parts : BD "read_parts" "read_parts" s_read_parts ["parts"] :=
  fun _ _ _ _ _ _ us hl => match us, hl with | [_], _ => rfl
theorem ok_read_parts (Xt : Txt K mg ca) : OkF ⟨K, ca⟩ P w mg base 9 "read_parts" ["parts"] f_read_parts :=
  OkF.hide (OkF.frz (ok_of Xt.f_read_parts sc_read_parts fun _ _ _ _ _ _ _ hr =>
    (fss_cons (fs_if (ft_cmp (op_eqD (hu9 hr)) sndD (fe_ix ix_D (snd_ix rfl) (fe_var 0) fe_int (fun _ _ => rfl)) fe_str (nomark _)) (fss_one (fs_ret (fe_tup (fa_cons fe_str (fa_cons (fe_ix ix_D (snd_ix rfl) (fe_callO (ok_read_numbers Xt) rfl (hr.mono (by decide)) rfl (fa_cons (fe_slice rfl (fe_var 0) (fo_some fe_int) fo_none) (fa_cons fe_int fa_nil))) fe_int (fun _ _ => rfl)) fa_nil))))) fss_nil)
    (fss_cons (fs_if (ft_cmp (op_eqD (hu9 hr)) sndD (fe_ix ix_D (snd_ix rfl) (fe_var 0) fe_int (fun _ _ => rfl)) fe_str (nomark _)) (fss_one (fs_ret (fe_callTy call_tuple_of (snd_tuple rfl) rfl Xt.n_tuple boot_tuple (fa_cons (fe_op (op_addD rfl) sndD (fe_lv (fa_cons fe_str fa_nil)) (fe_callO (ok_read_numbers Xt) rfl (hr.mono (by decide)) rfl (fa_cons (fe_slice rfl (fe_var 0) (fo_some fe_int) fo_none) (fa_cons fe_int fa_nil)))) fa_nil)))) fss_nil)
    (fss_cons (fs_if (ft_cmp (op_eqD (hu9 hr)) sndD (fe_ix ix_D (snd_ix rfl) (fe_var 0) fe_int (fun _ _ => rfl)) fe_str (nomark _)) (fss_cons (fs_set (i := 1) sc_read_parts.nd rfl (Or.inl rfl) (fe_callO (ok_read_numbers Xt) rfl (hr.mono (by decide)) rfl (fa_cons (fe_slice rfl (fe_var 0) (fo_some fe_int) (fo_some fe_int)) (fa_cons fe_int fa_nil))))
    (fss_one (fs_ret (fe_tup (fa_cons fe_str (fa_cons (fe_ix ix_D (snd_ix rfl) (fe_var 1) fe_int (fun _ _ => rfl)) (fa_cons (fe_ix ix_D (snd_ix rfl) (fe_var 1) fe_int (fun _ _ => rfl)) (fa_cons (fe_callO (ok_read_stand Xt) rfl (hr.mono (by decide)) rfl (fa_cons (fe_methS PySem.F.plainAttrs_str PySem.F.slot_str_join PySem.F.type_str_join mt_join snd_join fe_str (fa_cons (fe_slice rfl (fe_var 0) (fo_some fe_int) fo_none) fa_nil)) fa_nil)) fa_nil)))))))) fss_nil)
    (fss_one (fs_raise 2 PySem.F.excBase_ValueError rfl Xt.x_NoText Xt.m_NoText rfl rfl (fa_cons fe_str fa_nil))))))))

abbrev s_is_pot : Stmt := top 17
noncomputable def g_is_pot : Ev → M Fl :=
  (sRet (eFn 3 f_is_between [] (aCons (eVar 0) (aCons (eC (.int 0)) (aCons (eC (.int 2)) aNil)))))
noncomputable def f_is_pot : List D → M D := hide fun ds => frz (run 1 g_is_pot ds)
theorem sc_is_pot : FnScope ["thing"] ["thing"] (defScope s_is_pot) := ⟨rfl, rfl, rfl, by decide +kernel, rfl, by decide +kernel, by decide +kernel⟩
theorem bd_is_pot : BD "is_pot" "is_pot" s_is_pot ["thing"] :=
  fun _ _ _ _ _ _ us hl => match us, hl with | [_], _ => rfl
theorem ok_is_pot (Xt : Txt K mg ca) : OkF ⟨K, ca⟩ P w mg base 3 "is_pot" ["thing"] f_is_pot :=
  OkF.hide (OkF.frz (ok_of Xt.f_is_pot sc_is_pot fun _ _ _ _ _ _ _ hr =>
    (fss_one (fs_ret (fe_callO (ok_is_between Xt) rfl (hr.mono (by decide)) rfl (fa_cons (fe_var 0) (fa_cons fe_int (fa_cons (fe_globI (u := .int 2 (Xt.c_MOST_POT).choose) rfl (Xt.c_MOST_POT).choose_spec ⟨_, rfl⟩) fa_nil))))))))

abbrev s_is_of_a_side : Stmt := top 27
noncomputable def g_is_of_a_side : Ev → M Fl :=
  (sRet (eAnd (eBin oEq (eCall oLen (aCons (eVar 0) aNil)) (eC (.int 4))) (eAnd (eFn 1 f_is_pot [] (aCons (eBin oIx (eVar 0) (eC (.int 1))) aNil)) (eFn 1 f_is_side [] (aCons (eBin oIx (eVar 0) (eC (.int 2))) aNil)))))
noncomputable def f_is_of_a_side : List D → M D := hide fun ds => frz (run 1 g_is_of_a_side ds)
theorem sc_is_of_a_side : FnScope ["thing"] ["thing"] (defScope s_is_of_a_side) := ⟨rfl, rfl, rfl, by decide +kernel, rfl, by decide +kernel, by decide +kernel⟩
theorem bd_is_of_a_side : BD "is_of_a_side" "is_of_a_side" s_is_of_a_side ["thing"] :=
  fun _ _ _ _ _ _ us hl => match us, hl with | [_], _ => rfl
theorem ok_is_of_a_side (Xt : Txt K mg ca) : OkF ⟨K, ca⟩ P w mg base 4 "is_of_a_side" ["thing"] f_is_of_a_side :=
  OkF.hide (OkF.frz (ok_of Xt.f_is_of_a_side sc_is_of_a_side fun _ _ _ _ _ _ _ hr =>
    (fss_one (fs_ret (fe_and (fe_cmp (op_eqD (hu9 hr)) sndD (fe_callB call_len_seq (snd_len rfl) rfl Xt.n_len PySem.boot_len (fa_cons (fe_var 0) fa_nil)) fe_int (nomark _)) (fe_and (fe_callO (ok_is_pot Xt) rfl (hr.mono (by decide)) rfl (fa_cons (fe_ix ix_D (snd_ix rfl) (fe_var 0) fe_int (fun _ _ => rfl)) fa_nil)) (fe_one (fe_callO (ok_is_side Xt) rfl (hr.mono (by decide)) rfl (fa_cons (fe_ix ix_D (snd_ix rfl) (fe_var 0) fe_int (fun _ _ => rfl)) fa_nil)))))))))

abbrev s_is_thing : Stmt := top 28
noncomputable def g_is_thing : Ev → M Fl :=
  (sSeq (sIf (bOr (bNot (eT (eUn (oIsB .tuple) (eVar 0)))) (bOr (eT (eBin oEq (eCall oLen (aCons (eVar 0) aNil)) (eC (.int 0)))) (bNot (eT (eUn (oIsB .str) (eBin oIx (eVar 0) (eC (.int 0)))))))) (sRet (eC (.bl false))) sNil)
  (sSeq (sIf (eT (eBin oEq (eBin oIx (eVar 0) (eC (.int 0))) (eC (.str "word")))) (sRet (eAnd (eBin oEq (eCall oLen (aCons (eVar 0) aNil)) (eC (.int 2))) (eFn 1 f_is_word [] (aCons (eBin oIx (eVar 0) (eC (.int 1))) aNil)))) sNil)
  (sSeq (sIf (eT (eBin oEq (eBin oIx (eVar 0) (eC (.int 0))) (eC (.str "strike")))) (sRet (eAnd (eFn 1 f_is_of_a_side [] (aCons (eVar 0) aNil)) (eFn 1 f_is_number [] (aCons (eBin oIx (eVar 0) (eC (.int 3))) aNil)))) sNil)
  (sSeq (sIf (eT (eBin oEq (eBin oIx (eVar 0) (eC (.int 0))) (eC (.str "agree")))) (sRet (eAnd (eFn 1 f_is_of_a_side [] (aCons (eVar 0) aNil)) (eFn 1 f_is_stand [] (aCons (eBin oIx (eVar 0) (eC (.int 3))) aNil)))) sNil)
  (sRet (eC (.bl false)))))))
noncomputable def f_is_thing : List D → M D := hide fun ds => frz (run 1 g_is_thing ds)
theorem sc_is_thing : FnScope ["thing"] ["thing"] (defScope s_is_thing) := ⟨rfl, rfl, rfl, by decide +kernel, rfl, by decide +kernel, by decide +kernel⟩
theorem bd_is_thing : BD "is_thing" "is_thing" s_is_thing ["thing"] :=
  fun _ _ _ _ _ _ us hl => match us, hl with | [_], _ => rfl
theorem ok_is_thing (Xt : Txt K mg ca) : OkF ⟨K, ca⟩ P w mg base 7 "is_thing" ["thing"] f_is_thing :=
  OkF.hide (OkF.frz (ok_of Xt.f_is_thing sc_is_thing fun _ _ _ _ _ _ _ hr =>
    (fss_cons (fs_if (L2.PW.pt (fw_or (ft_not (ft_val (fe_isB .tuple (fe_var 0) rfl Xt.n_isinstance rfl Xt.n_tuple boot_tuple))) (fw_or (ft_cmp (op_eqD (hu9 hr)) sndD (fe_callB call_len_seq (snd_len rfl) rfl Xt.n_len PySem.boot_len (fa_cons (fe_var 0) fa_nil)) fe_int (nomark _)) (fw_or1 (ft_not (ft_val (fe_isB .str (fe_ix ix_D (snd_ix rfl) (fe_var 0) fe_int (fun _ _ => rfl)) rfl Xt.n_isinstance rfl Xt.n_str boot_str))))))) (fss_one (fs_ret fe_bl)) fss_nil)
    (fss_cons (fs_if (ft_cmp (op_eqD (hu9 hr)) sndD (fe_ix ix_D (snd_ix rfl) (fe_var 0) fe_int (fun _ _ => rfl)) fe_str (nomark _)) (fss_one (fs_ret (fe_and (fe_cmp (op_eqD (hu9 hr)) sndD (fe_callB call_len_seq (snd_len rfl) rfl Xt.n_len PySem.boot_len (fa_cons (fe_var 0) fa_nil)) fe_int (nomark _)) (fe_one (fe_callO (ok_is_word Xt) rfl (hr.mono (by decide)) rfl (fa_cons (fe_ix ix_D (snd_ix rfl) (fe_var 0) fe_int (fun _ _ => rfl)) fa_nil)))))) fss_nil)
    (fss_cons (fs_if (ft_cmp (op_eqD (hu9 hr)) sndD (fe_ix ix_D (snd_ix rfl) (fe_var 0) fe_int (fun _ _ => rfl)) fe_str (nomark _)) (fss_one (fs_ret (fe_and (fe_callO (ok_is_of_a_side Xt) rfl (hr.mono (by decide)) rfl (fa_cons (fe_var 0) fa_nil)) (fe_one (fe_callO (ok_is_number Xt) rfl (hr.mono (by decide)) rfl (fa_cons (fe_ix ix_D (snd_ix rfl) (fe_var 0) fe_int (fun _ _ => rfl)) fa_nil)))))) fss_nil)
    (fss_cons (fs_if (ft_cmp (op_eqD (hu9 hr)) sndD (fe_ix ix_D (snd_ix rfl) (fe_var 0) fe_int (fun _ _ => rfl)) fe_str (nomark _)) (fss_one (fs_ret (fe_and (fe_callO (ok_is_of_a_side Xt) rfl (hr.mono (by decide)) rfl (fa_cons (fe_var 0) fa_nil)) (fe_one (fe_callO (ok_is_stand Xt) rfl (hr.mono (by decide)) rfl (fa_cons (fe_ix ix_D (snd_ix rfl) (fe_var 0) fe_int (fun _ _ => rfl)) fa_nil)))))) fss_nil)
    (fss_one (fs_ret fe_bl))))))))

abbrev s_read_thing : Stmt := top 39
noncomputable def g_read_thing : Ev → M Fl :=
  (sSeq (sSet 1 (eFn 1 f_read_parts [] (aCons (eFn 2 f_split_at [] (aCons (eVar 0) (aCons (eC (.str " ")) aNil))) aNil)))
  (sSeq (sIf (bNot (eT (eFn 1 f_is_thing [] (aCons (eVar 1) aNil)))) (sRaise 2 (aCons (eC (.str "there is no such thing")) aNil)) sNil)
  (sRet (eVar 1))))
noncomputable def f_read_thing : List D → M D := hide fun ds => frz (run 2 g_read_thing ds)
theorem sc_read_thing : FnScope ["text", "made"] ["text"] (defScope s_read_thing) := ⟨rfl, rfl, rfl, by decide +kernel, rfl, by decide +kernel, by decide +kernel⟩
theorem bd_read_thing : BD "read_thing" "read_thing" s_read_thing ["text"] :=
  fun _ _ _ _ _ _ us hl => match us, hl with | [_], _ => rfl
theorem ok_read_thing (Xt : Txt K mg ca) : OkF ⟨K, ca⟩ P w mg base 10 "read_thing" ["text"] f_read_thing :=
  OkF.hide (OkF.frz (ok_of Xt.f_read_thing sc_read_thing fun _ _ _ _ _ _ _ hr =>
    (fss_cons (fs_set (i := 1) sc_read_thing.nd rfl (Or.inl rfl) (fe_callO (ok_read_parts Xt) rfl (hr.mono (by decide)) rfl (fa_cons (fe_callO (ok_split_at Xt) rfl (hr.mono (by decide)) rfl (fa_cons (fe_var 0) (fa_cons fe_str fa_nil))) fa_nil)))
    (fss_cons (fs_if (ft_not (ft_val (fe_callO (ok_is_thing Xt) rfl (hr.mono (by decide)) rfl (fa_cons (fe_var 1) fa_nil)))) (fss_one (fs_raise 2 PySem.F.excBase_ValueError rfl Xt.x_NoText Xt.m_NoText rfl rfl (fa_cons fe_str fa_nil))) fss_nil)
    (fss_one (fs_ret (fe_var 1)))))))

abbrev s__law_told : Stmt := top 54
noncomputable def g__law_told : Ev → M Fl :=
  (sSeq (sSet 2 (eC .non))
  (sSeq (sSet 3 (eC (.bl true)))
  (sSeq (sTry (sIf (eT (eVar 0)) (sSet 2 (eFn 1 f_read_thing [] (aCons (eVar 1) aNil))) (sSet 2 (eFn 1 f_read_stand [] (aCons (eVar 1) aNil)))) (⟨(htab [(0, false), (1, false), (2, true)]), some 4, (sSeq (sSet 2 (eC (.str "text")))
  (sSet 3 (eAnd (eUn (oIsX (htab [(0, true), (1, true), (2, true)])) (eVar 4)) (eNot (eUn (oIsX (htab [(0, false), (1, true), (2, false)])) (eVar 4))))))⟩ :: (⟨(htab [(0, false), (1, true), (2, false)]), some 4, (sSeq (sSet 2 (eC (.str "stand")))
  (sSet 3 (eAnd (eUn (oIsX (htab [(0, true), (1, true), (2, true)])) (eVar 4)) (eNot (eUn (oIsX (htab [(0, false), (1, false), (2, true)])) (eVar 4))))))⟩ :: [])))
  (sSeq (sIf (bNot (eT (eVar 3))) (sRet (eC (.str "mixed"))) sNil)
  (sRet (eVar 2))))))
noncomputable def f__law_told : List D → M D := hide fun ds => frz (run 5 g__law_told ds)
theorem sc__law_told : FnScope ["_law_thing", "_law_text_here", "_law_found", "_law_plain", "e"] ["_law_thing", "_law_text_here"] (defScope s__law_told) := ⟨rfl, rfl, rfl, by decide +kernel, rfl, by decide +kernel, by decide +kernel⟩
theorem bd__law_told : BD "_law_told" "_law_told" s__law_told ["_law_thing", "_law_text_here"] :=
  fun _ _ _ _ _ _ us hl => match us, hl with | [_, _], _ => rfl
theorem ok__law_told (Xt : Txt K mg ca) : OkF ⟨K, ca⟩ P w mg base 11 "_law_told" ["_law_thing", "_law_text_here"] f__law_told :=
  OkF.hide (OkF.frz (ok_of Xt.f__law_told sc__law_told fun _ _ _ _ _ _ _ hr =>
    (fss_cons (fs_set (i := 2) sc__law_told.nd rfl (Or.inl rfl) fe_non)
    (fss_cons (fs_set (i := 3) sc__law_told.nd rfl (Or.inl rfl) fe_bl)
    (fss_cons (fs_try rfl rfl (fun _ _ hpo => (fss_one (fs_if (ft_val (fe_var 0)) (fss_one (fs_set (i := 2) sc__law_told.nd rfl (Or.inl rfl) (fe_callO (ok_read_thing Xt) rfl (hr.mono (by decide)) rfl (fa_cons (fe_var 1) fa_nil)))) (fss_one (fs_set (i := 2) sc__law_told.nd rfl (Or.inl rfl) (fe_callO (ok_read_stand Xt) rfl (hr.mono (by decide)) rfl (fa_cons (fe_var 1) fa_nil))))))) (.consAs (i := 4) rfl (by decide) (.inl Xt.m_NoText) (ht_of (ht_cons Xt.e_BookError_NoText (ht_cons Xt.e_NoStand_NoText (ht_cons Xt.e_NoText_NoText ht_nil)))) sc__law_told.nd rfl rfl (fun _ => (fss_cons (fs_set (i := 2) sc__law_told.nd rfl (Or.inl rfl) fe_str)
    (fss_one (fs_set (i := 3) sc__law_told.nd rfl (Or.inl rfl) (fe_and (fe_isX (t := htab [(0, true), (1, true), (2, true)]) (fe_var 4) rfl Xt.n_isinstance rfl (by decide) (.own Xt.m_BookError) (ix_of (ix_cons Xt.xk_BookError Xt.i_BookError_BookError (ix_cons Xt.xk_NoStand Xt.i_NoStand_BookError (ix_cons Xt.xk_NoText Xt.i_NoText_BookError ix_nil))))) (fe_one (fe_not (fe_isX (t := htab [(0, false), (1, true), (2, false)]) (fe_var 4) rfl Xt.n_isinstance rfl (by decide) (.own Xt.m_NoStand) (ix_of (ix_cons Xt.xk_BookError Xt.i_BookError_NoStand (ix_cons Xt.xk_NoStand Xt.i_NoStand_NoStand (ix_cons Xt.xk_NoText Xt.i_NoText_NoStand ix_nil)))))))))))) (.consAs (i := 4) rfl (by decide) (.inl Xt.m_NoStand) (ht_of (ht_cons Xt.e_BookError_NoStand (ht_cons Xt.e_NoStand_NoStand (ht_cons Xt.e_NoText_NoStand ht_nil)))) sc__law_told.nd rfl rfl (fun _ => (fss_cons (fs_set (i := 2) sc__law_told.nd rfl (Or.inl rfl) fe_str)
    (fss_one (fs_set (i := 3) sc__law_told.nd rfl (Or.inl rfl) (fe_and (fe_isX (t := htab [(0, true), (1, true), (2, true)]) (fe_var 4) rfl Xt.n_isinstance rfl (by decide) (.own Xt.m_BookError) (ix_of (ix_cons Xt.xk_BookError Xt.i_BookError_BookError (ix_cons Xt.xk_NoStand Xt.i_NoStand_BookError (ix_cons Xt.xk_NoText Xt.i_NoText_BookError ix_nil))))) (fe_one (fe_not (fe_isX (t := htab [(0, false), (1, false), (2, true)]) (fe_var 4) rfl Xt.n_isinstance rfl (by decide) (.own Xt.m_NoText) (ix_of (ix_cons Xt.xk_BookError Xt.i_BookError_NoText (ix_cons Xt.xk_NoStand Xt.i_NoStand_NoText (ix_cons Xt.xk_NoText Xt.i_NoText_NoText ix_nil)))))))))))) .nil)))
    (fss_cons (fs_if (ft_not (ft_val (fe_var 3))) (fss_one (fs_ret fe_str)) fss_nil)
    (fss_one (fs_ret (fe_var 2)))))))))

abbrev s__law_refused : Stmt := top 55
noncomputable def g__law_refused : Ev → M Fl :=
  (sSeq (sSet 1 (eC (.bl false)))
  (sSeq (sTry (sExp (eFn 1 f_read_number [] (aCons (eVar 0) aNil))) (⟨(htab [(0, false), (1, false), (2, true)]), none, (sSet 1 (eC (.bl true)))⟩ :: []))
  (sRet (eVar 1))))
noncomputable def f__law_refused : List D → M D := hide fun ds => frz (run 2 g__law_refused ds)
theorem sc__law_refused : FnScope ["_law_word", "_law_refused_here"] ["_law_word"] (defScope s__law_refused) := ⟨rfl, rfl, rfl, by decide +kernel, rfl, by decide +kernel, by decide +kernel⟩
theorem bd__law_refused : BD "_law_refused" "_law_refused" s__law_refused ["_law_word"] :=
  fun _ _ _ _ _ _ us hl => match us, hl with | [_], _ => rfl
theorem ok__law_refused (Xt : Txt K mg ca) : OkF ⟨K, ca⟩ P w mg base 3 "_law_refused" ["_law_word"] f__law_refused :=
  OkF.hide (OkF.frz (ok_of Xt.f__law_refused sc__law_refused fun _ _ _ _ _ _ _ hr =>
    (fss_cons (fs_set (i := 1) sc__law_refused.nd rfl (Or.inl rfl) fe_bl)
    (fss_cons (fs_try rfl rfl (fun _ _ hpo => (fss_one (fs_expr (fe_callO (ok_read_number Xt) rfl (hr.mono (by decide)) rfl (fa_cons (fe_var 0) fa_nil))))) (.cons rfl (by decide) (.inl Xt.m_NoText) (ht_of (ht_cons Xt.e_BookError_NoText (ht_cons Xt.e_NoStand_NoText (ht_cons Xt.e_NoText_NoText ht_nil)))) (fun _ => (fss_one (fs_set (i := 1) sc__law_refused.nd rfl (Or.inl rfl) fe_bl))) .nil))
    (fss_one (fs_ret (fe_var 1)))))))

abbrev s_law : Stmt := top 56
noncomputable def g_law : Ev → M Fl :=
  (sSeq (sSet 1 (eFn 2 f__law_cell_at [] (aCons (eVar 0) (aCons (eC (.int 0)) aNil))))
  (sSeq (sSet 2 (eFn 2 f__law_stand [] (aCons (eBin oMod (eBin oDiv (eVar 1) (eC (.int 30))) (eBin oAdd (eBin oPow (eC (.int 10)) (eC (.int 6))) (eC (.int 1)))) (aCons (eFn 2 f__law_cell_at [] (aCons (eVar 0) (aCons (eC (.int 1)) aNil))) aNil))))
  (sSeq (sSet 3 (eFn 2 f__law_changed [] (aCons (eFn 2 f__law_begun [] (aCons (eVar 1) (aCons (eVar 2) aNil))) (aCons (eFn 2 f__law_cell_at [] (aCons (eVar 0) (aCons (eC (.int 2)) aNil))) aNil))))
  (sSeq (sSet 4 (eLv (aCons (eC (.str "text")) (aCons (eC (.str "text")) aNil))))
  (sSeq (sIf (eT (eUn (oIsB .str) (eVar 3))) (sSet 4 (eLv (aCons (eFn 1 f__law_stand_of [] (aCons (eMethS oSplit (eVar 3) (aCons (eC (.str " ")) aNil)) aNil)) (aCons (eFn 1 f__law_thing_of [] (aCons (eMethS oSplit (eVar 3) (aCons (eC (.str " ")) aNil)) aNil)) aNil)))) sNil)
  (sSeq (sIf (bOr (eT (eBin oNe (eFn 2 f__law_told [] (aCons (eC (.bl false)) (aCons (eVar 3) aNil))) (eBin oIx (eVar 4) (eC (.int 0))))) (eT (eBin oNe (eFn 2 f__law_told [] (aCons (eC (.bl true)) (aCons (eVar 3) aNil))) (eBin oIx (eVar 4) (eC (.int 1)))))) (sRet (eC (.bl false))) sNil)
  (sSeq (sSet 5 (eLv (aCons (eC (.str "")) (aCons (eC (.str "01")) (aCons (eC (.str "-1")) (aCons (eC (.str "1 ")) (aCons (eC (.str "+1")) (aCons (eCall oStr1 (aCons (eBin oAdd (eBin oPow (eC (.int 10)) (eC (.int 30))) (eBin oMod (eFn 2 f__law_cell_at [] (aCons (eVar 0) (aCons (eC (.int 1)) aNil))) (eBin oPow (eC (.int 10)) (eC (.int 30))))) aNil)) (aCons (eC .non) (aCons (eC (.int 5)) (aCons (eC (.str "1_0")) (aCons (eC (.str "1.0")) aNil))))))))))))
  (sRet (eFn 1 f__law_refused [] (aCons (eBin oIx (eVar 5) (eBin oMod (eFn 2 f__law_cell_at [] (aCons (eVar 0) (aCons (eC (.int 2)) aNil))) (eC (.int 10)))) aNil))))))))))
noncomputable def f_law : List D → M D := run 6 g_law
theorem sc_law : FnScope ["_law_script", "_law_cell", "_law_one", "_law_text_here", "_law_due", "_law_odd"] ["_law_script"] (defScope s_law) := ⟨rfl, rfl, rfl, by decide +kernel, rfl, by decide +kernel, by decide +kernel⟩
theorem bd_law : BD "law" "law" s_law ["_law_script"] :=
  fun _ _ _ _ _ _ us hl => match us, hl with | [_], _ => rfl
theorem ok_law (Xt : Txt K mg ca) : OkL ⟨K, ca⟩ P w mg 12 "law" ["_law_script"] f_law :=
  ok_ofL Xt.f_law sc_law fun _ _ _ _ _ _ _ _ hr =>
    (fss_cons (fs_set (i := 1) sc_law.nd rfl (Or.inl rfl) (fe_callO (ok__law_cell_at Xt) rfl (hr.mono (by decide)) rfl (fa_cons (fe_var 0) (fa_cons fe_int fa_nil))))
    (fss_cons (fs_set (i := 2) sc_law.nd rfl (Or.inl rfl) (fe_callO (ok__law_stand Xt) rfl (hr.mono (by decide)) rfl (fa_cons (fe_op op_mod snd_mod (fe_op op_fdiv snd_div (fe_var 1) fe_int) (fe_op (op_addD rfl) sndD (fe_op op_pow snd_pow fe_int fe_int) fe_int)) (fa_cons (fe_callO (ok__law_cell_at Xt) rfl (hr.mono (by decide)) rfl (fa_cons (fe_var 0) (fa_cons fe_int fa_nil))) fa_nil))))
    (fss_cons (fs_set (i := 3) sc_law.nd rfl (Or.inl rfl) (fe_callO (ok__law_changed Xt) rfl (hr.mono (by decide)) rfl (fa_cons (fe_callO (ok__law_begun Xt) rfl (hr.mono (by decide)) rfl (fa_cons (fe_var 1) (fa_cons (fe_var 2) fa_nil))) (fa_cons (fe_callO (ok__law_cell_at Xt) rfl (hr.mono (by decide)) rfl (fa_cons (fe_var 0) (fa_cons fe_int fa_nil))) fa_nil))))
    (fss_cons (fs_set (i := 4) sc_law.nd rfl (Or.inl rfl) (fe_lv (fa_cons fe_str (fa_cons fe_str fa_nil))))
    (fss_cons (fs_if (ft_val (fe_isB .str (fe_var 3) rfl Xt.n_isinstance rfl Xt.n_str boot_str)) (fss_one (fs_set (i := 4) sc_law.nd rfl (Or.inl rfl) (fe_lv (fa_cons (fe_callO (ok__law_stand_of Xt) rfl (hr.mono (by decide)) rfl (fa_cons (fe_methS PySem.F.plainAttrs_str PySem.F.slot_str_split PySem.F.type_str_split mt_split snd_split (fe_var 3) (fa_cons fe_str fa_nil)) fa_nil)) (fa_cons (fe_callO (ok__law_thing_of Xt) rfl (hr.mono (by decide)) rfl (fa_cons (fe_methS PySem.F.plainAttrs_str PySem.F.slot_str_split PySem.F.type_str_split mt_split snd_split (fe_var 3) (fa_cons fe_str fa_nil)) fa_nil)) fa_nil))))) fss_nil)
    (fss_cons (fs_if (L2.PW.pt (fw_or (ft_cmp (op_neD (hu9 hr)) sndD (fe_callO (ok__law_told Xt) rfl (hr.mono (by decide)) rfl (fa_cons fe_bl (fa_cons (fe_var 3) fa_nil))) (fe_ix ix_D (snd_ix rfl) (fe_var 4) fe_int (fun _ _ => rfl)) (nomark _)) (fw_or1 (ft_cmp (op_neD (hu9 hr)) sndD (fe_callO (ok__law_told Xt) rfl (hr.mono (by decide)) rfl (fa_cons fe_bl (fa_cons (fe_var 3) fa_nil))) (fe_ix ix_D (snd_ix rfl) (fe_var 4) fe_int (fun _ _ => rfl)) (nomark _))))) (fss_one (fs_ret fe_bl)) fss_nil)
    (fss_cons (fs_set (i := 5) sc_law.nd rfl (Or.inl rfl) (fe_lv (fa_cons fe_str (fa_cons fe_str (fa_cons fe_str (fa_cons fe_str (fa_cons fe_str (fa_cons (fe_callTy call_str_int snd_str1 rfl Xt.n_str boot_str (fa_cons (fe_op (op_addD rfl) sndD (fe_op op_pow snd_pow fe_int fe_int) (fe_op op_mod snd_mod (fe_callO (ok__law_cell_at Xt) rfl (hr.mono (by decide)) rfl (fa_cons (fe_var 0) (fa_cons fe_int fa_nil))) (fe_op op_pow snd_pow fe_int fe_int))) fa_nil)) (fa_cons fe_non (fa_cons fe_int (fa_cons fe_str (fa_cons fe_str fa_nil))))))))))))
    (fss_one (fs_ret (fe_callO (ok__law_refused Xt) rfl (hr.mono (by decide)) rfl (fa_cons (fe_ix ix_D (snd_ix rfl) (fe_var 5) (fe_op op_mod snd_mod (fe_callO (ok__law_cell_at Xt) rfl (hr.mono (by decide)) rfl (fa_cons (fe_var 0) (fa_cons fe_int fa_nil))) fe_int) (fun _ _ => rfl)) fa_nil)))))))))))

end
end K62

namespace K62
open PySem L2 L4
set_option maxHeartbeats 4000000

def cellV (ns : List Int) (k : Nat) : Int := ns.getD k 0
theorem cell_ap (ns : List Int) (k : Int) (hk : 0 ≤ k) (σ : Sto) : f__law_cell_at [.scr ns, .int k] σ = .ok (.int (cellV ns k.toNat)) σ := by
  unfold f__law_cell_at g__law_cell_at cellV
  by_cases h : k < ns.length
  · simp [h, oIx_scr hk h]
  · have e : ns.length ≤ k.toNat := by omega
    simp [h, List.getElem?_eq_none e]
def mixW (c k : Int) : Int :=
  if c % 2 = 0 then Builtin.bitAnd (c / 2 / 2 ^ (41 * k).toNat) 2199023255551
  else ((c % 2147483647 + 7919 * k + 1) * 48271 % 2147483647 * ((c % 2147483647 + 7919 * k + 1) * 48271 % 2147483647 / 1009 + 69621) % 2147483647) *
    ((c % 2147483647 + 7919 * k + 1) * 48271 % 2147483647 * ((c % 2147483647 + 7919 * k + 1) * 48271 % 2147483647 / 1009 + 69621) % 2147483647 / 4099 + 16807 + k) % 2147483629
theorem mixW_ap (c k : Int) (hk : 0 ≤ k) (σ : Sto) : f__law_mixed [.int c, .int k] σ = .ok (.int (mixW c k)) σ := by
  unfold f__law_mixed g__law_mixed mixW
  by_cases h : c % 2 = 0
  · rw [if_pos h]
    simp [h, oMul_ap (cMul_L (i := 41) (j := k) (by decide) (by decide)), show 0 ≤ 41 * k by omega]
  · rw [if_neg h]
    have b1 : ∀ z y : Int, cMul (z % 2147483647) y = true := fun z y => cMul_L (by omega) (by omega)
    have b2 : ∀ z : Int, cMul z 48271 = true := fun z => cMul_R (by decide) (by decide)
    have b3 : cMul 7919 k = true := cMul_L (by decide) (by decide)
    have hb : (c % 2 == 0) = false := by simpa using h
    simp [hb, oMul_ap, b1, b2, b3]
theorem mix_ex : ∃ f : Int → Int → Int, ∀ c k : Int, 0 ≤ k → ∀ σ, f__law_mixed [.int c, .int k] σ = .ok (.int (f c k)) σ := ⟨mixW, mixW_ap⟩
noncomputable def mixV : Int → Int → Int := mix_ex.choose
theorem mix_ap (c k : Int) (hk : 0 ≤ k) (σ : Sto) : f__law_mixed [.int c, .int k] σ = .ok (.int (mixV c k)) σ := mix_ex.choose_spec c k hk σ

def amtV (n : Int) : Int := 1 + [n / 5 % 10, n / 5 % 1000000000000, n / 5 % 1000, 0, 999999999999].getD (n % 5).toNat 0
theorem amt_ap (n : Int) (σ : Sto) : f__law_amount [.int n] σ = .ok (.int (amtV n)) σ := by
  unfold f__law_amount g__law_amount amtV
  simp
theorem amtV_b (n : Int) : 1 ≤ amtV n ∧ amtV n ≤ 1000000000000 := by
  unfold amtV
  have := getD_all (P := fun z : Int => 0 ≤ z ∧ z ≤ 999999999999) (l := [n / 5 % 10, n / 5 % 1000000000000, n / 5 % 1000, 0, 999999999999]) (d := 0) (n := (n % 5).toNat) (by simp; omega) (by omega)
  omega

def shareV (n : Int) : Int := [n / 4 % 50, 0, n / 4 % 1000000000000, n / 4 % 10000].getD (n % 4).toNat 0
theorem share_ap (n : Int) (σ : Sto) : f__law_share [.int n] σ = .ok (.int (shareV n)) σ := by
  unfold f__law_share g__law_share shareV
  simp
theorem shareV_b (n : Int) : 0 ≤ shareV n ∧ shareV n ≤ 2000000000000 := by
  unfold shareV
  exact getD_all (P := fun z : Int => 0 ≤ z ∧ z ≤ 2000000000000) (by simp; omega) (by omega)

structure Ti where
  p : Int
  a : Int
  w : Int
  d : Int
def Ti.D (t : Ti) : L4.D := .tup [.int t.p, .int t.a, .int t.w, .int t.d]
structure Ti.Ok (t : Ti) : Prop where
  p1 : 0 ≤ t.p
  p2 : t.p ≤ 1
  a1 : 1 ≤ t.a
  a2 : t.a ≤ 1000000000000
  w1 : 0 ≤ t.w
  w2 : t.w ≤ 59
  d1 : 0 ≤ t.d
  d2 : t.d ≤ 1000000
@[simp] theorem Ti.cl (t : Ti) : L4.cl t.D = true := by simp [Ti.D]
@[simp] theorem Ti.clL (ts : List Ti) : L4.clL (ts.map Ti.D) = true := clL_map Ti.cl
structure TsOk (ts : List Ti) : Prop where
  ok : ∀ t ∈ ts, t.Ok
  nd : (ts.map (·.w)).Nodup
  len : ts.length ≤ 6

def dayM (m : Int) : Int := if m % 4 / 3 = 0 then 40 else 1000001
theorem dayM_b (m : Int) : 0 < dayM m ∧ dayM m ≤ 1000001 := by unfold dayM; split <;> omega
noncomputable def tieV (c : Int) (i : Int) (w : Int) : Ti := ⟨mixV c (4 * i + 3) / 8 % 2, amtV (mixV c (4 * i) * 991 + mixV c (4 * i + 1)), w, mixV c (4 * i + 2) % dayM (mixV c (4 * i + 3))⟩
theorem tieV_ok (c : Int) (i : Int) (w : Int) (h1 : 0 ≤ w) (h2 : w ≤ 59) : (tieV c i w).Ok := by
  have hz := dayM_b (mixV c (4 * i + 3))
  have e1 := Int.emod_nonneg (mixV c (4 * i + 2)) (show dayM (mixV c (4 * i + 3)) ≠ 0 by omega)
  have e2 := Int.emod_lt_of_pos (mixV c (4 * i + 2)) hz.1
  have e3 := amtV_b (mixV c (4 * i) * 991 + mixV c (4 * i + 1))
  exact ⟨by show 0 ≤ mixV c (4 * i + 3) / 8 % 2; omega, by show mixV c (4 * i + 3) / 8 % 2 ≤ 1; omega, e3.1, e3.2, h1, h2, e1, by show mixV c (4 * i + 2) % dayM (mixV c (4 * i + 3)) ≤ 1000000; omega⟩
theorem day_ix (m : Int) (σ : Sto) : oIx (.lst [.int 40, .int 1000001]) (.int (m % 4 / 3)) σ = .ok (.int (dayM m)) σ := by
  unfold dayM
  by_cases h : m % 4 / 3 = 0
  · rw [if_pos h, h]; rfl
  · have h1 : m % 4 / 3 = 1 := by omega
    rw [if_neg h, h1]; rfl
theorem tie_ap {c w i : Int} {x : D} (hi : 0 ≤ i) (σ : Sto) (hx : oIx x (.int i) σ = .ok (.int w) σ) : f__law_tie [.int c, .int i, x] σ = .ok (tieV c i w).D σ := by
  have b1 : cMul 4 i = true := cMul_L (by decide) (by decide)
  have b2 : ∀ z, cMul z 991 = true := fun z => cMul_R (by decide) (by decide)
  unfold f__law_tie g__law_tie
  simp [oMul_ap, b1, b2, mix_ap _ (4 * i) (by omega), mix_ap _ (4 * i + 1) (by omega), mix_ap _ (4 * i + 2) (by omega), mix_ap _ (4 * i + 3) (by omega), amt_ap, day_ix, dayM_b, hx]
  rfl
noncomputable def wstep (c : Int) (ws : List Int) (k : Nat) : List Int :=
  if ws.any (· == (mixV c 40 / 60 + k * (1 + mixV c 41 % 9)) % 60) then ws else ws ++ [(mixV c 40 / 60 + k * (1 + mixV c 41 % 9)) % 60]
noncomputable def wordsV (c : Int) : List Int := (List.range' 0 (c % 7).toNat).foldl (wstep c) []
/-- words that are right: unlike, of the bounds -/
def WsOk (ws : List Int) : Prop := ws.Nodup ∧ ∀ w ∈ ws, 0 ≤ w ∧ w ≤ 59
theorem wstep_ok {c : Int} {ws : List Int} {k : Nat} (h : WsOk ws) : WsOk (wstep c ws k) ∧ (wstep c ws k).length ≤ ws.length + 1 := by
  unfold wstep
  generalize hw : (mixV c 40 / 60 + k * (1 + mixV c 41 % 9)) % 60 = w
  by_cases hc : ws.any (· == w) = true
  · rw [if_pos hc]; exact ⟨h, by omega⟩
  · rw [if_neg hc]
    refine ⟨⟨?_, fun x hx => ?_⟩, by simp⟩
    · rw [List.nodup_append]
      refine ⟨h.1, by simp, fun a ha b hb e => hc ?_⟩
      have e' : b = w := by simpa using hb
      rw [List.any_eq_true]
      exact ⟨a, ha, by rw [e, e']; simp⟩
    · rcases List.mem_append.mp hx with z | z
      · exact h.2 x z
      · have e' : x = w := by simpa using z
        rw [e', ← hw]; omega
theorem fold_ok {c : Int} : ∀ (ks : List Nat) (ws : List Int), WsOk ws → WsOk (ks.foldl (wstep c) ws) ∧ (ks.foldl (wstep c) ws).length ≤ ws.length + ks.length
  | [], ws, h => ⟨h, by simp⟩
  | k :: ks, ws, h => by
    obtain ⟨h1, h2⟩ := wstep_ok (c := c) (k := k) h
    obtain ⟨h3, h4⟩ := fold_ok ks (wstep c ws k) h1
    exact ⟨h3, by simp only [List.foldl_cons, List.length_cons]; omega⟩
theorem wordsV_ok (c : Int) : WsOk (wordsV c) ∧ (wordsV c).length ≤ 6 := by
  obtain ⟨h1, h2⟩ := fold_ok (c := c) (List.range' 0 (c % 7).toNat) [] ⟨List.nodup_nil, fun _ h => nomatch h⟩
  refine ⟨h1, ?_⟩
  unfold wordsV
  simp only [List.length_nil, List.length_range', Nat.zero_add] at h2
  omega
noncomputable def tiesV (c : Int) : List Ti := (List.range (wordsV c).length).map fun (i : Nat) => tieV (c / 7) i ((wordsV c)[i]?.getD 0)
theorem tiesV_words (c : Int) : (tiesV c).map (·.w) = wordsV c := by
  unfold tiesV
  rw [List.map_map]
  apply List.ext_getElem?
  intro i
  rw [List.getElem?_map]
  by_cases h : i < (wordsV c).length
  · simp [h, tieV]
  · simp [h]
theorem tiesV_ok (c : Int) : TsOk (tiesV c) := by
  obtain ⟨⟨h1, h2⟩, h3⟩ := wordsV_ok c
  refine ⟨fun t ht => ?_, by rw [tiesV_words]; exact h1, by simp [tiesV]; exact h3⟩
  unfold tiesV at ht
  obtain ⟨i, hi, rfl⟩ := List.mem_map.mp ht
  have hl : i < (wordsV c).length := List.mem_range.mp hi
  have e : (wordsV c)[i]?.getD 0 = (wordsV c)[i] := by simp [hl]
  rw [e]
  have := h2 _ (List.getElem_mem hl)
  exact tieV_ok _ _ _ this.1 this.2
noncomputable abbrev wordsB : Ev → M Fl := (sSeq (sSet 3 (eBin oMod (eBin oAdd (eBin oDiv (eFn 2 f__law_mixed [] (aCons (eVar 0) (aCons (eC (.int 40)) aNil))) (eC (.int 60))) (eBin oMul (eVar 2) (eBin oAdd (eC (.int 1)) (eBin oMod (eFn 2 f__law_mixed [] (aCons (eVar 0) (aCons (eC (.int 41)) aNil))) (eC (.int 9)))))) (eC (.int 60))))
  (sIf (eT (eBin (oIn true) (eVar 3) (eVar 1))) (sExp (eMeth oAppend (eVar 1) (aCons (eVar 3) aNil))) sNil))
theorem word_stepI (c : Int) (σ : Sto) (i : Int) (ws : List Int) (y : Option D) (hn : ws.length < 1000) :
    wordsB [some (.int c), some (.ref σ.length), some (.int i), y] (σ ++ [.lst (ws.map D.int)]) = .ok (.nx [some (.int c), some (.ref σ.length), some (.int i), some (.int ((mixV c 40 / 60 + i * (1 + mixV c 41 % 9)) % 60))]) (σ ++ [.lst ((if ws.any (· == (mixV c 40 / 60 + i * (1 + mixV c 41 % 9)) % 60) then ws else ws ++ [(mixV c 40 / 60 + i * (1 + mixV c 41 % 9)) % 60]).map D.int)]) := by
  have b9 : ∀ z : Int, cMul z (1 + mixV c 41 % 9) = true := fun z => cMul_R (by omega) (by omega)
  have e := fun w => oIn_ints (σ := σ ++ [.lst (ws.map D.int)]) (neg := true) (w := w) (x := .ref σ.length) (ws := ws) (by simp)
  have a := fun d => append_end (σ := σ) (xs := ws.map D.int) (d := d) (by simpa using hn)
  have m1 := mix_ap c 40 (by decide)
  have m2 := mix_ap c 41 (by decide)
  generalize mixV c 40 = A at m1 ⊢
  generalize mixV c 41 = B at m2 b9 ⊢
  cases hc : ws.any (· == (A / 60 + i * (1 + B % 9)) % 60) with
  | true => simp [m1, m2, oMul_ap, b9, e, hc]
  | false => simp [m1, m2, oMul_ap, b9, e, hc, a]
theorem word_step (c : Int) (σ : Sto) (i : Nat) (ws : List Int) (y : Option D) (hn : ws.length < 1000) :
    wordsB [some (.int c), some (.ref σ.length), some (.int i), y] (σ ++ [.lst (ws.map D.int)]) = .ok (.nx [some (.int c), some (.ref σ.length), some (.int i), some (.int ((mixV c 40 / 60 + i * (1 + mixV c 41 % 9)) % 60))]) (σ ++ [.lst ((wstep c ws i).map D.int)]) := by
  rw [word_stepI c σ i ws y hn]; rfl
theorem words_loop (c : Int) (σ : Sto) : ∀ (n i : Nat) (ws : List Int) (x y : Option D), WsOk ws → ws.length + n ≤ 100 →
    ∃ x' y', loop (tgN 2) wordsB ((List.range' i n).map fun (k : Nat) => D.int k) [some (.int c), some (.ref σ.length), x, y] (σ ++ [.lst (ws.map D.int)])
      = .ok (.nx [some (.int c), some (.ref σ.length), x', y']) (σ ++ [.lst (((List.range' i n).foldl (wstep c) ws).map D.int)]) := by
  intro n
  induction n with
  | zero => intro i ws x y _ _; exact ⟨x, y, by rw [List.range'_zero, List.map_nil, loop_nil, List.foldl_nil]⟩
  | succ n ih =>
    intro i ws x y hw hn
    have hs := wstep_ok (c := c) (k := i) hw
    obtain ⟨x', y', e⟩ := ih (i + 1) (wstep c ws i) (some (.int i)) (some (.int ((mixV c 40 / 60 + i * (1 + mixV c 41 % 9)) % 60))) hs.1 (by omega)
    refine ⟨x', y', ?_⟩
    rw [List.range'_succ, List.map_cons, List.foldl_cons, loop_tgN, ← e]
    simp only [List.set_cons_succ, List.set_cons_zero]
    rw [word_step c σ i ws y (by omega), bind_ok, loopK_nx]
theorem ties_ap (c : Int) (σ : Sto) : f__law_ties [.int c] σ = .ok (.tup ((tiesV c).map Ti.D)) σ := by
  have hm : 0 ≤ c % 7 ∧ c % 7 < 7 := by omega
  obtain ⟨x', y', e⟩ := words_loop c σ (c % 7).toNat 0 [] none none ⟨List.nodup_nil, fun _ h => nomatch h⟩ (by simp; omega)
  have e' : loop (tgN 2) wordsB (rangeD (c % 7).toNat) [some (.int c), some (.ref σ.length), none, none] (σ ++ [.lst []]) = .ok (.nx [some (.int c), some (.ref σ.length), x', y']) (σ ++ [.lst ((wordsV c).map D.int)]) := by
    rw [List.map_nil, ← rangeD_eq, show (List.range' 0 (c % 7).toNat).foldl (wstep c) [] = wordsV c from rfl] at e; exact e
  obtain ⟨⟨w1, w2⟩, w3⟩ := wordsV_ok c
  have hlc : eFrz (eLC (srcR (eCall oLen (aCons (eVar 1) aNil))) [1, 0] (tgN 0) bTrue (eFn 3 f__law_tie [] (aCons (eBin oDiv (eVar 2) (eC (.int 7))) (aCons (eVar 0) (aCons (eVar 1) aNil))))) [some (.int c), some (.ref σ.length), x', y'] (σ ++ [.lst ((wordsV c).map D.int)]) = .ok (.lst ((tiesV c).map Ti.D)) (σ ++ [.lst ((wordsV c).map D.int)]) := by
    have h1 : (srcR (eCall oLen (aCons (eVar 1) aNil))) [some (.int c), some (.ref σ.length), x', y'] (σ ++ [.lst ((wordsV c).map D.int)]) = .ok (.seq (rangeD (wordsV c).length)) (σ ++ [.lst ((wordsV c).map D.int)]) := by
      have : oLen [.ref σ.length] (σ ++ [.lst ((wordsV c).map D.int)]) = .ok (.int (wordsV c).length) (σ ++ [.lst ((wordsV c).map D.int)]) := by simp [oLen]
      simp [this, rngK_ap (j := ((wordsV c).length : Int)) (by omega) (by omega)]
    have := lc_map (ix := [1, 0]) (fe := eFn 3 f__law_tie [] (aCons (eBin oDiv (eVar 2) (eC (.int 7))) (aCons (eVar 0) (aCons (eVar 1) aNil)))) (fun d => match d with | .int i => (tieV (c / 7) i ((wordsV c).getD i.toNat 0)).D | _ => .non) h1 (by rw [rangeD_eq]; simp; omega) (fun d hd j => ?_) (fun d hd => ?_)
    · rw [this, rangeD_eq, List.map_map]
      unfold tiesV
      rw [List.map_map, List.range_eq_range']
      congr 2
    · rw [rangeD_eq] at hd
      obtain ⟨i, hi, rfl⟩ := List.mem_map.mp hd
      have hl : i < (wordsV c).length := by simpa using hi
      have hx : oIx (.ref σ.length) (.int (i : Int)) (σ ++ [.lst ((wordsV c).map D.int)] ++ j) = .ok (.int ((wordsV c).getD i 0)) (σ ++ [.lst ((wordsV c).map D.int)] ++ j) := by
        have : seqOf (σ ++ [.lst ((wordsV c).map D.int)] ++ j) (.ref σ.length) = some ((wordsV c).map D.int) := by simp [seqOf, lstAt]
        simp only [oIx, this]
        rw [atI_I (by omega) (by omega)]
        simp
      simp only [List.map_cons, List.map_nil]
      have := tie_ap (c := c / 7) (i := (i : Int)) (by omega) _ hx
      simp only [eFn_ap, aCons_ap, eBin_ap, eVar_0, eVar_S, eC_ap, bind_ok, binK_ap, aConsK_ap, aNil_ap, consK_ap, fnK_3, List.getElem?_cons_succ, List.getElem?_cons_zero, Option.getD_some, oDiv_ap _ 7 (by decide) (by decide), this, Int.toNat_natCast]
    · rw [rangeD_eq] at hd
      obtain ⟨i, hi, rfl⟩ := List.mem_map.mp hd
      simp
  unfold f__law_ties g__law_ties
  simp only [hide_eq, frz_ap, run_ap, sSeq_ap, sSet_ap, eLst_ap, aNil_ap, bind_ok, lstK_0, xsO_ok, setK_ap, seqK_nx, List.map_cons, List.map_nil, List.length_cons, List.length_nil, List.cons_append, List.nil_append, List.set, List.replicate, Nat.reduceAdd, Nat.reduceSub]
  rw [sFor_ap]
  have h0 : srcR (eBin oMod (eVar 0) (eC (.int 7))) [some (.int c), some (.ref σ.length), none, none] (σ ++ [.lst []]) = .ok (.seq (rangeD (c % 7).toNat)) (σ ++ [.lst []]) := by
    simp [rngK_ap (j := c % 7) (by omega) (by omega)]
  rw [h0, xsO_ok, forK_seq]
  rw [e', bind_ok, seqK_nx]
  simp only [sRet_ap, eCall_ap, aCons_ap, aNil_ap, aConsK_ap, bind_ok, consK_ap, hlc, oTuple_lst, xsO_ok, retK_ap, runO_rt]
  exact frzO_end (by simp)

theorem whole_int (i : Int) (σ : Sto) : f_is_whole [.int i] σ = .ok (.bl true) σ := by unfold f_is_whole g_is_whole; simp
theorem btw_int (i a b : Int) (σ : Sto) : f_is_between [.int i, .int a, .int b] σ = .ok (.bl (decide (a ≤ i) && decide (i ≤ b))) σ := by
  unfold f_is_between g_is_between
  cases h : decide (a ≤ i) <;> simp [whole_int, h]
theorem side_int (i : Int) (σ : Sto) : f_is_side [.int i] σ = .ok (.bl (decide (0 ≤ i) && decide (i ≤ 1))) σ := by unfold f_is_side g_is_side; simp [btw_int]
theorem amount_int (i : Int) (σ : Sto) : f_is_amount [.int i] σ = .ok (.bl (decide (1 ≤ i) && decide (i ≤ 1000000000000))) σ := by unfold f_is_amount g_is_amount; simp [btw_int]
theorem day_int (i : Int) (σ : Sto) : f_is_day [.int i] σ = .ok (.bl (decide (0 ≤ i) && decide (i ≤ 1000000))) σ := by unfold f_is_day g_is_day; simp [btw_int]
theorem word_int (i : Int) (σ : Sto) : f_is_word [.int i] σ = .ok (.bl (decide (0 ≤ i) && decide (i ≤ 59))) σ := by unfold f_is_word g_is_word; simp [btw_int]
theorem number_int (i : Int) (σ : Sto) : f_is_number [.int i] σ = .ok (.bl (decide (0 ≤ i) && decide (i ≤ 1000000))) σ := by unfold f_is_number g_is_number; simp [btw_int]
def tieB (t : Ti) : Bool := (decide (0 ≤ t.p) && decide (t.p ≤ 1)) && ((decide (1 ≤ t.a) && decide (t.a ≤ 1000000000000)) && ((decide (0 ≤ t.w) && decide (t.w ≤ 59)) && (decide (0 ≤ t.d) && decide (t.d ≤ 1000000))))
theorem tieB_iff (t : Ti) : tieB t = true ↔ t.Ok := by
  simp only [tieB, Bool.and_eq_true, decide_eq_true_eq]
  exact ⟨fun h => ⟨h.1.1, h.1.2, h.2.1.1, h.2.1.2, h.2.2.1.1, h.2.2.1.2, h.2.2.2.1, h.2.2.2.2⟩, fun h => ⟨⟨h.p1, h.p2⟩, ⟨h.a1, h.a2⟩, ⟨h.w1, h.w2⟩, h.d1, h.d2⟩⟩
theorem tie_is (t : Ti) (σ : Sto) : f_is_tie [t.D] σ = .ok (.bl (tieB t)) σ := by
  unfold f_is_tie g_is_tie Ti.D tieB
  simp [side_int, amount_int, word_int, day_int]
  cases h1 : (decide (0 ≤ t.p) && decide (t.p ≤ 1)) <;> simp [amount_int, h1]
  cases h2 : (decide (1 ≤ t.a) && decide (t.a ≤ 1000000000000)) <;> simp [word_int, h2]
  cases h3 : (decide (0 ≤ t.w) && decide (t.w ≤ 59)) <;> simp [day_int, h3]
def tiesB (ts : List Ti) : Bool := decide (ts.length ≤ 6) && (ts.all tieB && decide (ts.map (·.w)).Nodup)
theorem tiesB_iff (ts : List Ti) : tiesB ts = true ↔ TsOk ts := by
  simp only [tiesB, Bool.and_eq_true, decide_eq_true_eq, List.all_eq_true]
  exact ⟨fun h => ⟨fun t ht => (tieB_iff t).mp (h.2.1 t ht), h.2.2, h.1⟩, fun h => ⟨h.len, fun t ht => (tieB_iff t).mpr (h.ok t ht), h.nd⟩⟩
theorem lc_ties {ρ : Ev} {σ : Sto} {i : Nat} {ix : List Nat} {ts : List Ti} (hl : ts.length ≤ 1000) (h : eVar i ρ σ = .ok (.tup (ts.map Ti.D)) σ) :
    eFrz (eLC (srcS (eVar i)) [] (tgN 0) bTrue (eBin oIx (eVar 0) (eC (.int 2)))) ρ σ = .ok (.lst ((ts.map (·.w)).map D.int)) σ := by
  have := lc_map (ix := []) (fe := eBin oIx (eVar 0) (eC (.int 2))) (ds := ts.map Ti.D) (ρ := ρ) (σ := σ) (src := srcS (eVar i)) (fun d => match d with | .tup [_, _, w, _] => w | _ => .non) (by simp [h]) (by simpa using hl) (fun d hd j => by obtain ⟨t, _, rfl⟩ := List.mem_map.mp hd; simp [Ti.D]) (fun d hd => by obtain ⟨t, _, rfl⟩ := List.mem_map.mp hd; simp [Ti.D])
  rw [this, List.map_map, List.map_map]; rfl
theorem ties_are (ts : List Ti) (σ : Sto) : f_are_ties [.tup (ts.map Ti.D)] σ = .ok (.bl (tiesB ts)) σ := by
  unfold f_are_ties g_are_ties tiesB
  by_cases hl : ts.length ≤ 6
  · have l1 : eFrz (eLC (srcS (eVar 0)) [] (tgN 0) bTrue (eFn 1 f_is_tie [] (aCons (eVar 0) aNil))) [some (.tup (ts.map Ti.D))] σ = .ok (.lst (ts.map fun t => D.bl (tieB t))) σ := by
      have := lc_map (ix := []) (fe := eFn 1 f_is_tie [] (aCons (eVar 0) aNil)) (ds := ts.map Ti.D) (ρ := [some (.tup (ts.map Ti.D))]) (σ := σ) (src := srcS (eVar 0)) (fun d => match d with | .tup [.int p, .int a, .int w, .int d] => .bl (tieB ⟨p, a, w, d⟩) | _ => .non) (by simp) (by simp; omega) (fun d hd j => by obtain ⟨t, _, rfl⟩ := List.mem_map.mp hd; simp [tie_is]; rfl) (fun d hd => by obtain ⟨t, _, rfl⟩ := List.mem_map.mp hd; simp [Ti.D])
      rw [this, List.map_map]; rfl
    have l2 := lc_ties (ρ := [some (.tup (ts.map Ti.D))]) (σ := σ) (i := 0) (ix := []) (ts := ts) (by omega) (by simp)
    have hb : (decide ((ts.length : Int) > 6)) = false := by simp; omega
    have l3 := oLenSet_ints (σ := σ) (l := ts.map (·.w)) (by simp; omega)
    have l4 : ((ddp (ts.map (·.w))).length : Int) = (ts.length : Int) ↔ (ts.map (·.w)).Nodup := by
      have := ddp_len (ts.map (·.w)); rwa [List.length_map] at this
    have l5 : (((ddp (ts.map (·.w))).length : Int) == (ts.length : Int)) = decide (ts.map (·.w)).Nodup := by
      rw [Bool.eq_iff_iff]; simpa using l4
    have ha := oAll_map (σ := σ) (f := tieB) (l := ts)
    simp only [hide_eq, frz_ap, run_ap, sSeq_ap, sIf_ap, bOr_ap, bNot_ap, eT_ap, eUn_ap, eCall_ap, List.map_cons, List.map_nil, List.length_cons, List.length_nil, List.cons_append, List.nil_append, List.replicate, Nat.reduceAdd, Nat.reduceSub, eVar_0, bind_ok, oIsB_tup, tst_ap, notK_ap, Bool.not_true, ifK_f, eBin_ap, aCons_ap, aNil_ap, aConsK_ap, consK_ap, oLen_tup, binK_ap, eC_ap, oB_ap, List.length_map, hb, xsO_ok, sNil_ap, seqK_nx, l1, ha]
    cases h2 : ts.all tieB with
    | false => simp
    | true => simp [l2, l3, l5, hl, -List.map_map, -eFrz_ap]
  · have hb : (decide ((ts.length : Int) > 6)) = true := by simp; omega
    have hb' : decide (ts.length ≤ 6) = false := by simpa using hl
    have hb2 : decide ((6 : Int) < (ts.length : Int)) = true := by simp; omega
    simp [hb', hb2]
def stB (n a b : Int) (ts : List Ti) : Bool := (decide (0 ≤ n) && decide (n ≤ 1000000)) && (((decide (0 ≤ a) && decide (a ≤ 2000000000000)) && (decide (0 ≤ b) && decide (b ≤ 2000000000000))) && tiesB ts)
/-- a stand as data -/
def stD (n a b : Int) (ts : List Ti) : D := .tup [.int n, .tup [.int a, .int b], .tup (ts.map Ti.D)]
@[simp] theorem stD_cl (n a b : Int) (ts : List Ti) : cl (stD n a b ts) = true := by simp [stD]
theorem shares_are (a b : Int) (σ : Sto) : f_are_shares [.tup [.int a, .int b]] σ = .ok (.bl ((decide (0 ≤ a) && decide (a ≤ 2000000000000)) && (decide (0 ≤ b) && decide (b ≤ 2000000000000)))) σ := by
  unfold f_are_shares g_are_shares
  simp [btw_int]
  cases h1 : (decide (0 ≤ a) && decide (a ≤ 2000000000000)) <;> simp [btw_int, h1]
theorem stand_is (n a b : Int) (ts : List Ti) (σ : Sto) : f_is_stand [stD n a b ts] σ = .ok (.bl (stB n a b ts)) σ := by
  unfold f_is_stand g_is_stand stD stB
  simp [number_int]
  cases h1 : (decide (0 ≤ n) && decide (n ≤ 1000000)) <;> simp [shares_are]
  cases h2 : ((decide (0 ≤ a) && decide (a ≤ 2000000000000)) && (decide (0 ≤ b) && decide (b ≤ 2000000000000))) <;> simp [ties_are]

noncomputable def stA (c : Int) : Int := shareV (mixV c 50 * 977 + 3)
noncomputable def stC (c : Int) : Int := shareV (mixV c 51 * 983 + mixV c 52)
theorem lstand_ap (n c : Int) (σ : Sto) : f__law_stand [.int n, .int c] σ = .ok (stD n (stA c) (stC c) (tiesV (c / 3))) σ := by
  have b1 : ∀ z, cMul z 977 = true := fun z => cMul_R (by decide) (by decide)
  have b2 : ∀ z, cMul z 983 = true := fun z => cMul_R (by decide) (by decide)
  unfold f__law_stand g__law_stand stD stA stC
  simp [mix_ap, oMul_ap, b1, b2, share_ap, ties_ap]

@[simp] theorem oNe_str (i j : Str) (σ : Sto) : oNe (.str i) (.str j) σ = .ok (.bl (!(i == j))) σ := oNe_of (by simp [eqD, kd, eqK, eqV])
@[simp] theorem eMethS_ap (o : D → List D → M D) (f : Ev → M D) (fs : Ev → M (List D)) (ρ : Ev) (σ : Sto) : eMethS o f fs ρ σ = (f ρ σ).bind (methSK o (fs ρ)) := nr rfl
@[simp] theorem methSK_ap (o : D → List D → M D) (m : M (List D)) (z : Str) (σ : Sto) : methSK o m (.str z) σ = (m σ).bind (o (.str z)) := nr rfl
@[simp] theorem srcT_ap (f : Ev → M D) (ρ : Ev) (σ : Sto) : srcT f ρ σ = (f ρ σ).bind strK2 := nr rfl
theorem cStr_of {i : Int} (h0 : 0 ≤ i) (h1 : i < 10 ^ 40) : cStr i = true := by
  simp only [cStr, hide_eq, Bool.and_eq_true, decide_eq_true_eq]; omega
theorem oStr1_ap {i : Int} (h0 : 0 ≤ i) (h1 : i < 10 ^ 40) (σ : Sto) : oStr1 [.int i] σ = .ok (.str (txI i)) σ := by
  unfold oStr1; dsimp only; rw [if_pos (cStr_of h0 h1)]
theorem spOk_of {z y : Str} (hy : (y.length == 0) = false) (hz : z.length ≤ 1000) : spOk z y = true := by
  have h1 : (Builtin.Str.partsBetween z (Builtin.Str.occurrences z y 0 z.length (z.length + 1)) y.length).length ≤ 100000 := by
    rw [length_partsBetween]
    have := StrLaws.occ_length_le z y 0 z.length (z.length + 1)
    omega
  have h2 : (Txt.split z y).length ≤ 100000 := by
    unfold Txt.split
    split
    · simp
    · split
      · simp
      · exact h1
  simp only [spOk, hide_eq, Bool.and_eq_true, decide_eq_true_eq, Bool.not_eq_true']
  exact ⟨hy, by omega, h1, h2⟩
theorem oSplit_ap {z y : Str} (h : spOk z y = true) (σ : Sto) : oSplit (.str z) [.str y] σ = .ok (.lst ((Txt.split z y).map D.str)) σ := by
  unfold oSplit; dsimp only; rw [if_pos h]
theorem oJoin_ap {z : Str} {ys : List Str} (h : joOk z ys = true) (σ : Sto) : oJoin (.str z) [.lst (ys.map D.str)] σ = .ok (.str (Txt.join z ys)) σ := by
  unfold oJoin
  have e : lsOf σ (.lst (ys.map D.str)) = some (ys.map D.str) := rfl
  simp only [e, strsOf_map, if_pos h]
theorem app_list (x y : Str) : (x ++ y).cps.toList = x.cps.toList ++ y.cps.toList := by
  show (x.cps ++ y.cps).toList = _
  simp
theorem app_len (x y : Str) : (x ++ y).length = x.length + y.length := by
  have e1 : (x ++ y).cps.toList.length = (x ++ y).length := by simp [Str.length]
  have e2 : x.cps.toList.length = x.length := by simp [Str.length]
  have e3 : y.cps.toList.length = y.length := by simp [Str.length]
  rw [← e1, app_list, List.length_append, e2, e3]
theorem oAdd_str {x y : Str} (h : x.length + y.length ≤ 100000) (σ : Sto) : oAdd (.str x) (.str y) σ = .ok (.str (x ++ y)) σ := by
  unfold oAdd; dsimp only; rw [if_pos h]; rfl
theorem len_list (x : Str) : x.cps.toList.length = x.length := by simp [Str.length]
/-! numbers -/
theorem isb_str (x : Str) (σ : Sto) : oIsB .str (.str x) σ = .ok (.bl true) σ := nr rfl
theorem sl_ch : ("/" : Str) = ⟨#[47]⟩ := by decide
theorem sp_ch : (" " : Str) = ⟨#[32]⟩ := by decide
def Nu (i : Int) : Prop := 0 ≤ i ∧ i < 10 ^ 13
theorem Nu.str {i : Int} (h : Nu i) (σ : Sto) : oStr1 [.int i] σ = .ok (.str (txI i)) σ := oStr1_ap h.1 (by have := h.2; omega) σ
theorem Nu.len {i : Int} (h : Nu i) : (txI i).length ≤ 13 := tx_len h.1 12 h.2
theorem Nu.no {i : Int} (h : Nu i) {c : Nat} (hc : c < 48) : c ∉ (txI i).cps.toList := fun hm => by have := tx_dig h.1 c hm; omega
theorem Ti.nu {t : Ti} (h : t.Ok) : Nu t.p ∧ Nu t.a ∧ Nu t.w ∧ Nu t.d := by
  have h1 := h.p1; have h2 := h.p2; have h3 := h.a1; have h4 := h.a2; have h5 := h.w1; have h6 := h.w2; have h7 := h.d1; have h8 := h.d2
  unfold Nu
  refine ⟨⟨h1, by omega⟩, ⟨by omega, by omega⟩, ⟨h5, by omega⟩, ⟨h7, by omega⟩⟩
noncomputable def tieT (t : Ti) : Str := Txt.join "/" [txI t.p, txI t.a, txI t.w, txI t.d]
noncomputable def stT (n a b : Int) (ts : List Ti) : Str := Txt.join " " (txI n :: txI a :: txI b :: ts.map tieT)
theorem tie_list (t : Ti) : (tieT t).cps.toList = (txI t.p).cps.toList ++ (47 :: (txI t.a).cps.toList) ++ (47 :: (txI t.w).cps.toList) ++ (47 :: (txI t.d).cps.toList) := by
  unfold tieT
  rw [join_list', sl_ch]
  simp [jl]
theorem tie_len {t : Ti} (h : t.Ok) : (tieT t).length ≤ 55 := by
  obtain ⟨h1, h2, h3, h4⟩ := Ti.nu h
  have l1 := h1.len; have l2 := h2.len; have l3 := h3.len; have l4 := h4.len
  rw [← len_list, tie_list]
  simp only [List.length_append, List.length_cons, len_list]
  omega
/-- all parts of a stand are small numbers -/
structure Sn (n a b : Int) (ts : List Ti) : Prop where
  n : Nu n
  a : Nu a
  b : Nu b
  o : ∀ t ∈ ts, t.Ok
  l : ts.length ≤ 6
theorem sn_of {n a b : Int} {ts : List Ti} (h : stB n a b ts = true) : Sn n a b ts := by
  simp only [stB, Bool.and_eq_true, decide_eq_true_eq] at h
  have ht := (tiesB_iff ts).mp h.2.2
  unfold Nu at *
  exact ⟨⟨by omega, by omega⟩, ⟨by omega, by omega⟩, ⟨by omega, by omega⟩, ht.ok, ht.len⟩
theorem st_list (n a b : Int) (ts : List Ti) : (stT n a b ts).cps.toList = (txI n).cps.toList ++ (32 :: (txI a).cps.toList) ++ (32 :: (txI b).cps.toList) ++ ts.flatMap fun t => 32 :: (tieT t).cps.toList := by
  unfold stT
  rw [join_list', sp_ch]
  simp [jl, List.flatMap_map, Function.comp_def]
theorem sum_le (l : List Ti) (h : ∀ t ∈ l, t.Ok) : (l.flatMap fun t => 32 :: (tieT t).cps.toList).length ≤ 56 * l.length := by
  induction l with
  | nil => simp
  | cons t l ih =>
    have h1 := tie_len (h t List.mem_cons_self)
    have h2 := ih fun t ht => h t (List.mem_cons_of_mem _ ht)
    rw [List.flatMap_cons, List.length_append, List.length_cons, List.length_cons, len_list]
    omega
theorem st_len {n a b : Int} {ts : List Ti} (h : Sn n a b ts) : (stT n a b ts).length ≤ 400 := by
  have l1 := h.n.len; have l2 := h.a.len; have l3 := h.b.len; have l4 := sum_le ts h.o; have l5 := h.l
  rw [← len_list, st_list]
  simp only [List.length_append, List.length_cons, len_list]
  omega
theorem sp_list : (" " : Str).cps.toList = [32] := by decide
theorem sl_list : ("/" : Str).cps.toList = [47] := by decide
theorem sp_len : (" " : Str).length = 1 := by decide
theorem sl_len : ("/" : Str).length = 1 := by decide
noncomputable abbrev bodyX : Ev → M Fl := (sSeq (sSet 1 (eBin oAdd (eBin oAdd (eBin oAdd (eBin oAdd (eVar 1) (eC (.str " "))) (eCall oStr1 (aCons (eBin oIx (eVar 2) (eC (.int 0))) aNil))) (eC (.str "/"))) (eCall oStr1 (aCons (eBin oIx (eVar 2) (eC (.int 1))) aNil))))
  (sSet 1 (eBin oAdd (eBin oAdd (eBin oAdd (eBin oAdd (eVar 1) (eC (.str "/"))) (eCall oStr1 (aCons (eBin oIx (eVar 2) (eC (.int 2))) aNil))) (eC (.str "/"))) (eCall oStr1 (aCons (eBin oIx (eVar 2) (eC (.int 3))) aNil)))))
def addT (x : Str) (t : Ti) : Str := x ++ " " ++ txI t.p ++ "/" ++ txI t.a ++ "/" ++ txI t.w ++ "/" ++ txI t.d
theorem bodyX_ap {t : Ti} (h : t.Ok) {x : Str} (hx : x.length ≤ 1000) (z : Option D) (σ : Sto) : bodyX [z, some (.str x), some t.D] σ = .ok (.nx [z, some (.str (addT x t)), some t.D]) σ := by
  obtain ⟨h1, h2, h3, h4⟩ := Ti.nu h
  have l1 := h1.len; have l2 := h2.len; have l3 := h3.len; have l4 := h4.len
  have s1 := fun σ => h1.str σ
  have s2 := fun σ => h2.str σ
  have s3 := fun σ => h3.str σ
  have s4 := fun σ => h4.str σ
  have j0 : ∀ σ, oIx t.D (.int 0) σ = .ok (.int t.p) σ := fun σ => by simp [Ti.D]
  have j1 : ∀ σ, oIx t.D (.int 1) σ = .ok (.int t.a) σ := fun σ => by simp [Ti.D]
  have j2 : ∀ σ, oIx t.D (.int 2) σ = .ok (.int t.w) σ := fun σ => by simp [Ti.D]
  have j3 : ∀ σ, oIx t.D (.int 3) σ = .ok (.int t.d) σ := fun σ => by simp [Ti.D]
  have a1 := fun σ => oAdd_str (x := x) (y := " ") (by rw [sp_len]; omega) σ
  have a2 := fun σ => oAdd_str (x := x ++ " ") (y := txI t.p) (by simp only [app_len, sp_len]; omega) σ
  have a3 := fun σ => oAdd_str (x := x ++ " " ++ txI t.p) (y := "/") (by simp only [app_len, sp_len, sl_len]; omega) σ
  have a4 := fun σ => oAdd_str (x := x ++ " " ++ txI t.p ++ "/") (y := txI t.a) (by simp only [app_len, sp_len, sl_len]; omega) σ
  have a5 := fun σ => oAdd_str (x := x ++ " " ++ txI t.p ++ "/" ++ txI t.a) (y := "/") (by simp only [app_len, sp_len, sl_len]; omega) σ
  have a6 := fun σ => oAdd_str (x := x ++ " " ++ txI t.p ++ "/" ++ txI t.a ++ "/") (y := txI t.w) (by simp only [app_len, sp_len, sl_len]; omega) σ
  have a7 := fun σ => oAdd_str (x := x ++ " " ++ txI t.p ++ "/" ++ txI t.a ++ "/" ++ txI t.w) (y := "/") (by simp only [app_len, sp_len, sl_len]; omega) σ
  have a8 := fun σ => oAdd_str (x := x ++ " " ++ txI t.p ++ "/" ++ txI t.a ++ "/" ++ txI t.w ++ "/") (y := txI t.d) (by simp only [app_len, sp_len, sl_len]; omega) σ
  unfold addT
  generalize x ++ " " = x1 at *
  generalize x1 ++ txI t.p = x2 at *
  generalize x2 ++ "/" = x3 at *
  generalize x3 ++ txI t.a = x4 at *
  generalize x4 ++ "/" = x5 at *
  generalize x5 ++ txI t.w = x6 at *
  generalize x6 ++ "/" = x7 at *
  generalize x7 ++ txI t.d = x8 at *
  generalize t.D = TT at *
  simp [j0, j1, j2, j3, s1, s2, s3, s4, a1, a2, a3, a4, a5, a6, a7, a8]
theorem addT_st (n a b : Int) (ts : List Ti) (t : Ti) : addT (stT n a b ts) t = stT n a b (ts ++ [t]) := by
  apply str_ext
  unfold addT
  simp only [app_list, sp_list, sl_list, st_list, tie_list, List.flatMap_append, List.flatMap_cons, List.flatMap_nil]
  simp
theorem stT_nil (n a b : Int) : txI n ++ " " ++ txI a ++ " " ++ txI b = stT n a b [] := by
  apply str_ext
  simp only [app_list, sp_list, st_list, List.flatMap_nil]
  simp
theorem loopX {n a b : Int} : ∀ (ts done : List Ti), Sn n a b (done ++ ts) → ∀ (z : Option D) (x2 : Option D) (σ : Sto), ∃ y2, loop (tgN 2) bodyX (ts.map Ti.D) [z, some (.str (stT n a b done)), x2] σ = .ok (.nx [z, some (.str (stT n a b (done ++ ts))), y2]) σ
  | [], done, h, z, x2, σ => ⟨x2, by rw [List.map_nil, loop_nil, List.append_nil]⟩
  | t :: ts, done, h, z, x2, σ => by
    have hd : Sn n a b done := ⟨h.n, h.a, h.b, fun t ht => h.o t (List.mem_append_left _ ht), by have := h.l; simp at this; omega⟩
    have ht := h.o t (by simp)
    have e : done ++ t :: ts = (done ++ [t]) ++ ts := by simp
    obtain ⟨y2, ih⟩ := loopX ts (done ++ [t]) (by rw [← e]; exact h) z (some t.D) σ
    refine ⟨y2, ?_⟩
    have hl := st_len hd
    rw [List.map_cons, loop_tgN, e, ← ih]
    simp only [List.set_cons_succ, List.set_cons_zero]
    rw [bodyX_ap ht (by omega), bind_ok, loopK_nx, addT_st]
theorem law_text_ap {n a b : Int} {ts : List Ti} (h : Sn n a b ts) (σ : Sto) : f__law_text [stD n a b ts] σ = .ok (.str (stT n a b ts)) σ := by
  have l1 := h.n.len; have l2 := h.a.len; have l3 := h.b.len
  have i0 : ∀ σ, oIx (stD n a b ts) (.int 0) σ = .ok (.int n) σ := fun σ => by simp [stD]
  have i1 : ∀ σ, oIx (stD n a b ts) (.int 1) σ = .ok (.tup [.int a, .int b]) σ := fun σ => by simp [stD]
  have i2 : ∀ σ, oIx (stD n a b ts) (.int 2) σ = .ok (.tup (ts.map Ti.D)) σ := fun σ => by simp [stD]
  have s1 := fun σ => h.n.str σ
  have s2 := fun σ => h.a.str σ
  have s3 := fun σ => h.b.str σ
  have a1 := fun σ => oAdd_str (x := txI n) (y := " ") (by rw [sp_len]; omega) σ
  have a2 := fun σ => oAdd_str (x := txI n ++ " ") (y := txI a) (by simp only [app_len, sp_len]; omega) σ
  have a3 := fun σ => oAdd_str (x := txI n ++ " " ++ txI a) (y := " ") (by simp only [app_len, sp_len]; omega) σ
  have a4 := fun σ => oAdd_str (x := txI n ++ " " ++ txI a ++ " ") (y := txI b) (by simp only [app_len, sp_len]; omega) σ
  rw [stT_nil] at a4
  obtain ⟨y2, lp⟩ := loopX ts [] (by simpa using h) (some (stD n a b ts)) none σ
  rw [List.nil_append] at lp
  unfold f__law_text g__law_text
  unfold bodyX at lp
  generalize txI n ++ " " = x1 at *
  generalize x1 ++ txI a = x2 at *
  generalize x2 ++ " " = x3 at *
  generalize stT n a b [] = x4 at *
  generalize stT n a b ts = x5 at *
  generalize ts.map Ti.D = G at *
  generalize stD n a b ts = S at *
  simp [i0, i1, i2, s1, s2, s3, a1, a2, a3, a4, -sFor_ap]
  simp only [sFor_ap, srcS_ap, eBin_ap, eVar_0, eC_ap, bind_ok, binK_ap, i2, seqK2_tup, xsO_ok, forK_seq, lp]
  simp

@[simp] theorem eSl_ap (f : Ev → M D) (lo hi : PF) (ρ : Ev) (σ : Sto) : eSl f lo hi ρ σ = (f ρ σ).bind (sl0K (ePart lo ρ) (ePart hi ρ)) := nr rfl
@[simp] theorem sl0K_ap (lo hi : M (Option Int)) (x : D) (σ : Sto) : sl0K lo hi x σ = (lo σ).bind (sl1K x hi) := nr rfl
@[simp] theorem sl1K_ap (x : D) (hi : M (Option Int)) (lo : Option Int) (σ : Sto) : sl1K x hi lo σ = (hi σ).bind (sl2K x lo) := nr rfl
@[simp] theorem ePart_n (ρ : Ev) (σ : Sto) : ePart none ρ σ = .ok none σ := nr rfl
@[simp] theorem ePart_s (f : Ev → M D) (ρ : Ev) (σ : Sto) : ePart (some f) ρ σ = (f ρ σ).bind partK := nr rfl
@[simp] theorem partK_i (i : Int) (σ : Sto) : partK (.int i) σ = .ok (some i) σ := nr rfl
/-- a place of a list, whatever holds of all that is in it -/
theorem ixL {P : D → Prop} {xs : List D} {k : Int} (h0 : 0 ≤ k) (h1 : k < xs.length) (h : ∀ x ∈ xs, P x) : ∃ V, P V ∧ ∀ σ, oIx (.lst xs) (.int k) σ = .ok V σ := by
  refine ⟨xs.getD k.toNat .non, ?_, fun σ => oIx_lst (atI_D h0 h1)⟩
  have hn : k.toNat < xs.length := by omega
  rw [List.getD_eq_getElem?_getD, List.getElem?_eq_getElem hn]
  exact h _ (List.getElem_mem hn)
@[simp] theorem ix_l0 (a : D) (r : List D) (σ : Sto) : oIx (.lst (a :: r)) (.int 0) σ = .ok a σ := oIx_lst (show atI _ ((0 : Nat) : Int) = _ from atI_nat rfl)
@[simp] theorem ix_l1 (a b : D) (r : List D) (σ : Sto) : oIx (.lst (a :: b :: r)) (.int 1) σ = .ok b σ := oIx_lst (show atI _ ((1 : Nat) : Int) = _ from atI_nat rfl)
@[simp] theorem ix_l2 (a b c : D) (r : List D) (σ : Sto) : oIx (.lst (a :: b :: c :: r)) (.int 2) σ = .ok c σ := oIx_lst (show atI _ ((2 : Nat) : Int) = _ from atI_nat rfl)
@[simp] theorem ix_l3 (a b c d : D) (r : List D) (σ : Sto) : oIx (.lst (a :: b :: c :: d :: r)) (.int 3) σ = .ok d σ := oIx_lst (show atI _ ((3 : Nat) : Int) = _ from atI_nat rfl)
/-! what is of another kind -/
@[simp] theorem isb_ts (s : List D) (σ : Sto) : oIsB .str (.tup s) σ = .ok (.bl false) σ := nr rfl
theorem btw_no {x : D} (h : ∀ σ, f_is_whole [x] σ = .ok (.bl false) σ) (a b : D) (σ : Sto) : f_is_between [x, a, b] σ = .ok (.bl false) σ := by unfold f_is_between g_is_between; simp [h]
inductive Th where
  | strike (p s n : Int)
  | agree (p s n a b : Int) (ts : List Ti)
  | word (n : Int)
  | none_
def thD : Th → D
  | .strike p s n => .tup [.str "strike", .int p, .int s, .int n]
  | .agree p s n a b ts => .tup [.str "agree", .int p, .int s, stD n a b ts]
  | .word n => .tup [.str "word", .int n]
  | .none_ => .non
@[simp] theorem thD_cl (t : Th) : cl (thD t) = true := by cases t <;> simp [thD]
def pB3 (p s : Int) : Bool := (decide (0 ≤ p) && decide (p ≤ 2)) && (decide (0 ≤ s) && decide (s ≤ 1))
def isTh : Th → Bool
  | .strike p s n => pB3 p s && (decide (0 ≤ n) && decide (n ≤ 1000000))
  | .agree p s n a b ts => pB3 p s && stB n a b ts
  | .word n => decide (0 ≤ n) && decide (n ≤ 59)
  | .none_ => false
theorem pot_int (i : Int) (σ : Sto) : f_is_pot [.int i] σ = .ok (.bl (decide (0 ≤ i) && decide (i ≤ 2))) σ := by unfold f_is_pot g_is_pot; simp [btw_int]
theorem ofside (x : D) (p s : Int) (y : D) (σ : Sto) : f_is_of_a_side [.tup [x, .int p, .int s, y]] σ = .ok (.bl (pB3 p s)) σ := by
  unfold f_is_of_a_side g_is_of_a_side pB3
  cases h : (decide (0 ≤ p) && decide (p ≤ 2)) <;> simp [pot_int, side_int, h]
theorem sw : (("strike" : Str) == "word") = false := by decide
theorem aw : (("agree" : Str) == "word") = false := by decide
theorem as_ : (("agree" : Str) == "strike") = false := by decide
theorem th_is (t : Th) (σ : Sto) : f_is_thing [thD t] σ = .ok (.bl (isTh t)) σ := by
  unfold f_is_thing g_is_thing
  cases t with
  | strike p s n =>
    simp only [thD, isTh]
    have o := ofside (.str "strike") p s (.int n) σ
    cases h : pB3 p s <;> rw [h] at o <;> simp [sw, o, number_int]
  | agree p s n a b ts =>
    simp only [thD, isTh]
    have o := ofside (.str "agree") p s (stD n a b ts) σ
    have i := stand_is n a b ts σ
    generalize stD n a b ts = S at *
    cases h : pB3 p s <;> rw [h] at o <;> simp [aw, as_, o, i]
  | word n => simp only [thD, isTh]; simp [word_int]
  | none_ => simp only [thD, isTh]; simp

def digc (c : Nat) : Bool := decide (48 ≤ c) && decide (c ≤ 57)
def digB (x : Str) : Bool := x.cps.toList.all digc
def Asc (x : Str) : Prop := ∀ c ∈ x.cps.toList, c < 128
def numB (x : Str) : Bool := (decide (1 ≤ x.length) && decide (x.length ≤ 30)) && (digB x && (x == "0" || !(x.cps.toList.head? == some 48)))
noncomputable def numO (x : Str) : Option Int := if numB x = true then PySem.intText? x else none
noncomputable def numD (x : Str) : D := match numO x with | some n => .int n | none => .non
theorem num_some {x : Str} (h : numB x = true) : ∃ n : Int, PySem.intText? x = some n ∧ 0 ≤ n := by
  simp only [numB, digB, digc, Bool.and_eq_true, decide_eq_true_eq, List.all_eq_true] at h
  have hd : PySem.NumText.AllDigits x.cps.toList := h.2.1
  have hne : x.cps.toList ≠ [] := fun e => by have := h.1.1; rw [← len_list, e] at this; simp at this
  exact ⟨_, PySem.intText_digits hd hne (by have := h.1.2; omega), by omega⟩
theorem numO_none {x : Str} (h : numB x = false) : numO x = none := by unfold numO; rw [h]; rfl
theorem numO_some {x : Str} {n : Int} (h : numO x = some n) : 0 ≤ n ∧ numB x = true := by
  unfold numO at h
  cases hb : numB x with
  | false => rw [hb] at h; cases h
  | true =>
    rw [hb, if_pos rfl] at h
    obtain ⟨m, e, h0⟩ := num_some hb
    rw [e] at h; cases h
    exact ⟨h0, rfl⟩
theorem ch_eq (c : Nat) : ((⟨#[c]⟩ : Str) == "0") = (c == 48) := by
  rw [Bool.eq_iff_iff, beq_iff_eq, beq_iff_eq]
  constructor
  · intro z
    have z3 : ([c] : List Nat) = [48] := congrArg (fun y : Str => y.cps.toList) z
    cases z3; rfl
  · rintro rfl; decide
theorem zero_eq {x : Str} {c : Nat} {r : List Nat} (h : x.cps.toList = c :: r) : (x == "0") = (c == 48 && decide (r = [])) := by
  rw [Bool.eq_iff_iff, beq_iff_eq, Bool.and_eq_true, beq_iff_eq, decide_eq_true_eq]
  constructor
  · intro z
    have z3 : x.cps.toList = [48] := congrArg (fun y : Str => y.cps.toList) z
    rw [h] at z3; cases z3; exact ⟨rfl, rfl⟩
  · rintro ⟨rfl, rfl⟩
    exact str_ext (by rw [h]; decide)
def digD (d : D) : Bool := match d with | .str z => z.cps.toList.all digc | _ => false
theorem inS_ap (c : Nat) (σ : Sto) : oInS (.str ⟨#[c]⟩) (.str "0123456789") σ = .ok (.bl (digD (.str ⟨#[c]⟩))) σ := by
  show Out.ok (D.bl (hasS ⟨#[c]⟩ "0123456789")) σ = _
  have e : hasS ⟨#[c]⟩ "0123456789" = digD (.str ⟨#[c]⟩) := by
    unfold hasS
    rw [StrLaws.found_one, show ("0123456789" : Str).cps.toList = [48, 49, 50, 51, 52, 53, 54, 55, 56, 57] by decide, Bool.eq_iff_iff, decide_eq_true_eq]
    simp [digD, digc]
    omega
  rw [e]
theorem lenA_ap {x : Str} (hl : x.length ≤ 1000) (σ : Sto) : oLenA [.str x] σ = .ok (.int x.length) σ := by unfold oLenA; dsimp only; rw [if_pos (by omega)]
theorem asc_all {x : Str} (h : Asc x) : x.cps.all (· < 128) = true := by
  rw [← Array.all_toList, List.all_eq_true]
  exact fun c hc => by simpa using h c hc
theorem digs_lc {x : Str} (hA : Asc x) (hl : x.length ≤ 1000) (σ : Sto) : eFrz (eLC (srcT (eVar 0)) [] (tgN 0) bTrue (eBin oInS (eVar 0) (eC (.str "0123456789")))) [some (.str x)] σ = .ok (.lst ((sgD x).map fun d => .bl (digD d))) σ :=
  lc_map (ix := []) (fe := eBin oInS (eVar 0) (eC (.str "0123456789"))) (ds := sgD x) (src := srcT (eVar 0)) (ρ := [some (.str x)]) (fun d => .bl (digD d)) (by
    have : ∀ σ, strK2 (.str x) σ = .ok (.seq (sgD x)) σ := fun σ => by unfold strK2; dsimp only; rw [if_pos (asc_all hA)]
    simp [this]) (by simp [sgD]; have := len_list x; simp at this; omega) (fun d hd j => by obtain ⟨c, hc, rfl⟩ := List.mem_map.mp hd; simp [inS_ap]) (fun d hd => by simp)
theorem digs_all (x : Str) (σ : Sto) : oAll [.lst ((sgD x).map fun d => .bl (digD d))] σ = .ok (.bl (digB x)) σ := by
  have e : ((sgD x).map digD).all id = digB x := by
    unfold sgD digB
    rw [List.map_map, List.all_map]
    congr 1
    funext c
    simp [digD]
  have : oAll [.lst ((sgD x).map fun d => .bl (digD d))] σ = .ok (.bl (((sgD x).map digD).all id)) σ := by
    simp [oAll, blsOf_map digD]
  rw [this, e]
theorem ix0_ap {x : Str} {c : Nat} {r : List Nat} (h : x.cps.toList = c :: r) (hl : x.length ≤ 1000) (σ : Sto) : oIxA (.str x) (.int 0) σ = .ok (.str ⟨#[c]⟩) σ := by
  unfold oIxA; dsimp only
  rw [if_pos (by omega), h, show atI (c :: r) (0 : Int) = some c from (show atI _ ((0 : Nat) : Int) = _ from atI_nat rfl)]
theorem cons_of {x : Str} (h : 1 ≤ x.length) : ∃ c r, x.cps.toList = c :: r := by
  cases e : x.cps.toList with
  | nil => rw [← len_list, e] at h; simp at h
  | cons c r => exact ⟨c, r, rfl⟩
theorem isnum_ap {x : Str} (hA : Asc x) (hl : x.length ≤ 1000) (σ : Sto) : f_is_number_text [.str x] σ = .ok (.bl (numB x)) σ := by
  have ln := fun σ => lenA_ap hl σ
  have lc := fun σ => digs_lc hA hl σ
  have al := fun σ => digs_all x σ
  unfold f_is_number_text g_is_number_text numB
  generalize hG : (sgD x).map (fun d => D.bl (digD d)) = G at *
  by_cases h1 : 1 ≤ x.length
  · have c1 : decide ((1 : Int) ≤ x.length) = true := by simp; omega
    by_cases h2 : x.length ≤ 30
    · have c2 : decide ((x.length : Int) ≤ 30) = true := by simp; omega
      obtain ⟨c, r, ec⟩ := cons_of h1
      have ix := fun σ => ix0_ap ec hl σ
      have ce := ch_eq c
      have d1 : decide (1 ≤ x.length) = true := by simpa using h1
      have d2 : decide (x.length ≤ 30) = true := by simpa using h2
      have hh : (x.cps.toList.head? == some 48) = (c == 48) := by rw [ec]; simp
      rw [d1, d2, hh]
      cases hd : digB x <;> cases hz : (x == "0") <;> cases hc : (c == 48) <;> (rw [hd] at al; rw [hc] at ce; simp [ln, c1, c2, lc, al, isb_str, hz, ix, ce, -eFrz_ap])
    · have c2 : decide ((x.length : Int) ≤ 30) = false := by simp; omega
      have d2 : decide (x.length ≤ 30) = false := by simpa using h2
      rw [d2]
      simp [ln, c1, c2, isb_str, -eFrz_ap]
  · have c1 : decide ((1 : Int) ≤ x.length) = false := by simp; omega
    have d1 : decide (1 ≤ x.length) = false := by simpa using h1
    rw [d1]
    simp [ln, c1, isb_str, -eFrz_ap]
theorem int_ap {x : Str} {n : Int} (hb : numB x = true) (h : PySem.intText? x = some n) (σ : Sto) : oIntA [.str x] σ = .ok (.int n) σ := by
  simp only [numB, Bool.and_eq_true, decide_eq_true_eq] at hb
  unfold oIntA; dsimp only; rw [if_pos (by omega), h]
theorem read_number_ap {x : Str} (hA : Asc x) (hl : x.length ≤ 1000) (σ : Sto) : f_read_number [.str x] σ = (match numO x with | some n => .ok (.int n) σ | none => .ex ⟨2⟩ σ) := by
  have is := fun σ => isnum_ap hA hl σ
  cases hb : numB x with
  | false =>
    rw [numO_none hb]
    rw [hb] at is
    unfold f_read_number g_read_number
    simp [is, raiseK, cap]
  | true =>
    obtain ⟨n, e, _⟩ := num_some hb
    have eo : numO x = some n := by unfold numO; rw [if_pos hb, e]
    have it := fun σ => int_ap hb e σ
    rw [eo]
    rw [hb] at is
    unfold f_read_number g_read_number
    simp [is, it]
theorem read_number_bad {d : D} (h : ∀ σ, f_is_number_text [d] σ = .ok (.bl false) σ) (σ : Sto) : f_read_number [d] σ = .ex ⟨2⟩ σ := by
  unfold f_read_number g_read_number
  simp [h, raiseK, cap]
theorem law_number_ap {x : Str} (hA : Asc x) (hl : x.length ≤ 1000) (σ : Sto) : f__law_number [.str x] σ = .ok (numD x) σ := by
  have ln := fun σ => lenA_ap hl σ
  have lc := fun σ => digs_lc hA hl σ
  have al := fun σ => digs_all x σ
  have hN : numB x = numB x := rfl
  unfold f__law_number g__law_number numD
  conv at hN => rhs; unfold numB
  generalize hG : (sgD x).map (fun d => D.bl (digD d)) = G at *
  by_cases h1 : 1 ≤ x.length
  · have c1 : decide ((x.length : Int) < 1) = false := by simp; omega
    have d1 : decide (1 ≤ x.length) = true := by simpa using h1
    by_cases h2 : x.length ≤ 30
    · have c2 : decide ((x.length : Int) > 30) = false := by simp; omega
      have d2 : decide (x.length ≤ 30) = true := by simpa using h2
      obtain ⟨c, r, ec⟩ := cons_of h1
      have ix := fun σ => ix0_ap ec hl σ
      have ce := ch_eq c
      have hh : (x.cps.toList.head? == some 48) = (c == 48) := by rw [ec]; simp
      have ze := zero_eq ec
      have lr : x.length = r.length + 1 := by rw [← len_list, ec]; simp
      rw [d1, d2, hh, ze] at hN
      cases hd : digB x with
      | false =>
        rw [hd] at hN al
        rw [numO_none (by rw [hN]; rfl)]
        simp [ln, c1, c2, lc, al, -eFrz_ap]
      | true =>
        rw [hd] at hN al
        by_cases hr : r = []
        · have c3 : decide ((x.length : Int) > 1) = false := by rw [lr, hr]; simp
          have hb : numB x = true := by rw [hN, hr]; cases (c == 48) <;> rfl
          obtain ⟨n, e, _⟩ := num_some hb
          have eo : numO x = some n := by unfold numO; rw [if_pos hb, e]
          have it := fun σ => int_ap hb e σ
          rw [eo]
          cases hc : (c == 48) <;> (rw [hc] at ce; simp [ln, c1, c2, c3, lc, al, ix, ce, it, -eFrz_ap])
        · have r1 : 1 ≤ r.length := by cases r with | nil => exact absurd rfl hr | cons => simp
          have c3 : decide ((x.length : Int) > 1) = true := by rw [lr]; simp; omega
          have dr : decide (r = []) = false := by simpa using hr
          rw [dr] at hN
          cases hc : (c == 48) with
          | true =>
            rw [hc] at ce hN
            rw [numO_none (by rw [hN]; rfl)]
            simp [ln, c1, c2, c3, lc, al, ix, ce, -eFrz_ap]
          | false =>
            rw [hc] at ce hN
            have hb : numB x = true := by rw [hN]; rfl
            obtain ⟨n, e, _⟩ := num_some hb
            have eo : numO x = some n := by unfold numO; rw [if_pos hb, e]
            have it := fun σ => int_ap hb e σ
            rw [eo]
            simp [ln, c1, c2, c3, lc, al, ix, ce, it, -eFrz_ap]
    · have c2 : decide ((x.length : Int) > 30) = true := by simp; omega
      have d2 : decide (x.length ≤ 30) = false := by simpa using h2
      rw [d1, d2] at hN
      rw [numO_none (by rw [hN]; rfl)]
      simp [ln, c1, c2, -eFrz_ap]
  · have c1 : decide ((x.length : Int) < 1) = true := by simp; omega
    have d1 : decide (1 ≤ x.length) = false := by simpa using h1
    rw [d1] at hN
    rw [numO_none (by rw [hN]; rfl)]
    simp [ln, c1, -eFrz_ap]

def Gd (x : Str) : Prop := Asc x ∧ x.length ≤ 900
theorem Gd.le {x : Str} (h : Gd x) : x.length ≤ 1000 := by have := h.2; omega
theorem allO_len {α β : Type} {q : α → Option β} : ∀ {l : List α} {ys : List β}, allO q l = some ys → ys.length = l.length
  | [], ys, h => by cases h; rfl
  | d :: r, ys, h => by
    unfold allO at h
    cases eq : q d with
    | none => rw [eq] at h; cases h
    | some z =>
      rw [eq] at h
      cases ea : allO q r with
      | none => rw [ea] at h; cases h
      | some zs => rw [ea] at h; cases h; simp [allO_len ea]
theorem allO_map {α β γ δ : Type} (f : α → β) (g : γ → δ) (p : α → Option γ) (q : β → Option δ) (h : ∀ a, q (f a) = (p a).map g) : ∀ l : List α, allO q (l.map f) = (allO p l).map (List.map g)
  | [] => rfl
  | a :: l => by
    have ih := allO_map f g p q h l
    rw [List.map_cons]
    unfold allO
    rw [h a, ih]
    cases p a with
    | none => rfl
    | some c => cases allO p l <;> rfl
noncomputable def numQ (d : D) : Option D := match d with | .str x => (numO x).map D.int | _ => none
theorem allO_num (xs : List Str) : allO numQ (xs.map D.str) = (allO numO xs).map (List.map D.int) := allO_map D.str D.int numO numQ (fun _ => rfl) xs
theorem read_numbers_lc {xs : List Str} (h : ∀ x ∈ xs, Gd x) (hl : xs.length ≤ 1000) (z : Option D) (σ : Sto) :
    eFrz (eLCX (srcS (eVar 0)) [] (tgN 0) bTrue (eFn 1 f_read_number [] (aCons (eVar 0) aNil))) [some (.lst (xs.map D.str)), z] σ = (match allO numO xs with | some ns => .ok (.lst (ns.map D.int)) σ | none => .ex ⟨2⟩ σ) := by
  have := lcx_map (ix := []) (fe := eFn 1 f_read_number [] (aCons (eVar 0) aNil)) (ds := xs.map D.str) (src := srcS (eVar 0)) (ρ := [some (.lst (xs.map D.str)), z]) (σ := σ) numQ ⟨2⟩ (by simp) (by simpa using hl) (fun d hd j => by
      obtain ⟨x, hx, rfl⟩ := List.mem_map.mp hd
      have r := fun σ => read_number_ap (h x hx).1 (h x hx).le σ
      show eFn 1 f_read_number [] (aCons (eVar 0) aNil) [some (.str x)] (σ ++ j) = (match (numO x).map D.int with | some y => _ | none => _)
      cases e : numO x with
      | none => rw [e] at r; simp [r]
      | some n => rw [e] at r; simp [r]) (fun d hd y hy => by
      obtain ⟨x, hx, rfl⟩ := List.mem_map.mp hd
      unfold numQ at hy
      dsimp only at hy
      cases e : numO x with
      | none => rw [e] at hy; cases hy
      | some n => rw [e] at hy; cases hy; simp)
  rw [this, allO_num]
  cases allO numO xs <;> rfl
theorem read_numbers_ap {xs : List Str} (h : ∀ x ∈ xs, Gd x) (hl : xs.length ≤ 1000) (k : Int) (σ : Sto) : f_read_numbers [.lst (xs.map D.str), .int k] σ = (if (xs.length : Int) = k then (match allO numO xs with | some ns => .ok (.lst (ns.map D.int)) σ | none => .ex ⟨2⟩ σ) else .ex ⟨2⟩ σ) := by
  have lc := fun z σ => read_numbers_lc h hl z σ
  have ln : ∀ σ, oLen [.lst (xs.map D.str)] σ = .ok (.int xs.length) σ := fun σ => by simp
  unfold f_read_numbers g_read_numbers
  by_cases hk : (xs.length : Int) = k
  · rw [if_pos hk]
    have e : ((xs.length : Int) == k) = true := by simpa using hk
    cases ea : allO numO xs with
    | none =>
      rw [ea] at lc
      generalize xs.map D.str = G at *
      simp [lc, ln, e, -eFrz_ap, -oLen_lst]
    | some ns =>
      rw [ea] at lc
      have kk : clL (ns.map D.int) = true := clL_map fun _ => by simp
      generalize ns.map D.int = G2 at *
      generalize xs.map D.str = G at *
      simp [lc, ln, e, kk, -eFrz_ap, -oLen_lst]
  · rw [if_neg hk]
    have e : ((xs.length : Int) == k) = false := by simpa using hk
    generalize xs.map D.str = G at *
    simp [ln, e, raiseK, cap, -eFrz_ap, -oLen_lst]
/-! splitting -/
theorem le_sum : ∀ {l : List Nat} {n : Nat}, n ∈ l → n ≤ l.sum
  | [], n, h => by cases h
  | a :: l, n, h => by
    rw [List.sum_cons]
    rcases List.mem_cons.mp h with rfl | h
    · omega
    · have := le_sum h; omega
theorem jl_sub (g : List Nat) : ∀ (ps : List (List Nat)) (p : List Nat), p ∈ ps → (∀ c ∈ p, c ∈ jl g ps) ∧ p.length ≤ (jl g ps).length
  | [], p, h => by cases h
  | q :: r, p, h => by
    rcases List.mem_cons.mp h with rfl | h
    · simp only [jl]
      exact ⟨fun c hc => List.mem_append_left _ hc, by rw [List.length_append]; omega⟩
    · simp only [jl]
      refine ⟨fun c hc => List.mem_append_right _ (List.mem_flatMap.mpr ⟨p, h, List.mem_append_right _ hc⟩), ?_⟩
      rw [List.length_append, List.length_flatMap]
      have : (g ++ p).length ≤ (r.map fun a => (g ++ a).length).sum := by
        have hm : (g ++ p).length ∈ r.map fun a => (g ++ a).length := List.mem_map.mpr ⟨p, h, rfl⟩
        exact le_sum hm
      rw [List.length_append] at this
      omega
theorem join_spl (x y : Str) : Txt.join y (Txt.split x y) = x := by
  show Builtin.Str.glued y (Txt.split x y) = x
  rw [StrLaws.glued_eq_join]; exact StrLaws.join_split x y
theorem split_gd {x y : Str} (h : Gd x) : ∀ p ∈ Txt.split x y, Gd p := fun p hp => by
  have e := join_spl x y
  have e2 : (Txt.join y (Txt.split x y)).cps.toList = x.cps.toList := by rw [e]
  rw [join_list'] at e2
  obtain ⟨h1, h2⟩ := jl_sub y.cps.toList ((Txt.split x y).map fun y => y.cps.toList) p.cps.toList (List.mem_map.mpr ⟨p, hp, rfl⟩)
  rw [e2] at h1 h2
  rw [len_list, len_list] at h2
  exact ⟨fun c hc => h.1 c (h1 c hc), by have := h.2; omega⟩
theorem jl_len1 {c : Nat} : ∀ (ps : List (List Nat)), ps.length ≤ (jl [c] ps).length + 1
  | [] => by simp
  | q :: r => by
    simp only [jl]
    rw [List.length_append, List.length_flatMap]
    have : ∀ r : List (List Nat), r.length ≤ (r.map fun a => ([c] ++ a).length).sum := by
      intro r
      induction r with
      | nil => simp
      | cons a r ih => simp only [List.map_cons, List.sum_cons, List.length_cons, List.length_append, List.length_nil]; simp only [List.length_append, List.length_cons, List.length_nil] at ih; omega
    have := this r
    simp only [List.length_cons]
    omega
theorem split_cnt {x : Str} {c : Nat} (h : x.length ≤ 900) : (Txt.split x ⟨#[c]⟩).length ≤ 901 := by
  have e2 : (Txt.join ⟨#[c]⟩ (Txt.split x ⟨#[c]⟩)).cps.toList = x.cps.toList := by rw [join_spl]
  rw [join_list'] at e2
  have := jl_len1 (c := c) ((Txt.split x ⟨#[c]⟩).map fun y => y.cps.toList)
  rw [show jl [c] ((Txt.split x ⟨#[c]⟩).map fun y => y.cps.toList) = x.cps.toList from e2, len_list, List.length_map] at this
  omega
theorem split_at_ap {x y : Str} (hy : (y.length == 0) = false) (h : x.length ≤ 1000) (σ : Sto) : f_split_at [.str x, .str y] σ = .ok (.lst ((Txt.split x y).map D.str)) σ := by
  have sp := fun σ => oSplit_ap (z := x) (y := y) (spOk_of hy h) σ
  have k : clL ((Txt.split x y).map D.str) = true := clL_map fun _ => by simp
  unfold f_split_at g_split_at
  generalize (Txt.split x y).map D.str = G at *
  simp [sp, isb_str, k]
theorem split_at_bad {d y : D} (h : ∀ σ, oIsB .str d σ = .ok (.bl false) σ) (σ : Sto) : f_split_at [d, y] σ = .ex ⟨2⟩ σ := by
  unfold f_split_at g_split_at
  simp [h, raiseK, cap]
noncomputable def tieO (x : Str) : Option Ti := match allO numO (Txt.split x "/") with | some [p, a, w, d] => some ⟨p, a, w, d⟩ | _ => none
theorem four {l : List Int} (h : l.length = 4) : ∃ p a w d, l = [p, a, w, d] := by
  match l, h with
  | [p, a, w, d], _ => exact ⟨p, a, w, d, rfl⟩
theorem three {α : Type} {l : List α} (h : l.length = 3) : ∃ p a w, l = [p, a, w] := by
  match l, h with
  | [p, a, w], _ => exact ⟨p, a, w, rfl⟩
theorem read_tie_ap {x : Str} (h : Gd x) (σ : Sto) : f_read_tie [.str x] σ = (match tieO x with | some t => .ok t.D σ | none => .ex ⟨2⟩ σ) := by
  have sp := fun σ => split_at_ap (x := x) (y := "/") rfl h.le σ
  have hc : (Txt.split x "/").length ≤ 901 := by rw [sl_ch]; exact split_cnt h.2
  have rn0 := fun σ => read_numbers_ap (split_gd (y := "/") h) (by omega) 4 σ
  unfold tieO
  by_cases h4 : (Txt.split x "/").length = 4
  · have rn := fun σ => (rn0 σ).trans (if_pos (by omega))
    cases ea : allO numO (Txt.split x "/") with
    | none =>
      rw [ea] at rn
      unfold f_read_tie g_read_tie
      generalize (Txt.split x "/").map D.str = G at *
      simp [sp, rn]
    | some ns =>
      rw [ea] at rn
      obtain ⟨p, a, w, d, rfl⟩ := four ((allO_len ea).trans h4)
      have ot : ∀ σ, oTuple [.lst ([p, a, w, d].map D.int)] σ = .ok (Ti.D ⟨p, a, w, d⟩) σ := fun σ => nr rfl
      have k : cl (Ti.D ⟨p, a, w, d⟩) = true := by simp [Ti.D]
      have rn : ∀ σ, f_read_numbers [.lst ((Txt.split x "/").map D.str), .int 4] σ = .ok (.lst ([p, a, w, d].map D.int)) σ := rn
      show _ = Out.ok (Ti.D ⟨p, a, w, d⟩) σ
      unfold f_read_tie g_read_tie
      generalize (Txt.split x "/").map D.str = G at *
      generalize [p, a, w, d].map D.int = G2 at *
      generalize Ti.D ⟨p, a, w, d⟩ = TT at *
      simp [sp, rn, ot, k]
  · have rn := fun σ => (rn0 σ).trans (if_neg (by omega))
    have e : (match allO numO (Txt.split x "/") with | some [p, a, w, d] => some (⟨p, a, w, d⟩ : Ti) | _ => none) = none := by
      split
      · rename_i ea
        have := allO_len ea
        exact absurd this.symm h4
      · rfl
    rw [e]
    unfold f_read_tie g_read_tie
    generalize (Txt.split x "/").map D.str = G at *
    simp [sp, rn]

@[simp] theorem sl2K_lst' (xs : List D) (lo hi : Option Int) (σ : Sto) : sl2K (.lst xs) lo hi σ = .ok (.lst (cutD xs lo hi)) σ := nr rfl
theorem cut_to (xs : List D) (k : Nat) : cutD xs none (some (k : Int)) = xs.take k := by
  unfold cutD
  rw [HT.sIx_none, HT.sIx_nat, List.drop_zero, Nat.sub_zero]
  by_cases h : k ≤ xs.length
  · rw [Nat.min_eq_left h]
  · rw [Nat.min_eq_right (by omega), List.take_of_length_le (Nat.le_refl _), List.take_of_length_le (by omega)]
theorem cut_from (xs : List D) (k : Nat) : cutD xs (some (k : Int)) none = xs.drop k := by
  unfold cutD
  rw [HT.sIx_none, HT.sIx_nat]
  by_cases h : k ≤ xs.length
  · rw [Nat.min_eq_left h, List.take_of_length_le (by rw [List.length_drop]; omega)]
  · rw [Nat.min_eq_right (by omega), List.drop_of_length_le (Nat.le_refl _), List.drop_of_length_le (by omega)]; simp
theorem cut_both (xs : List D) (k m : Nat) (hkm : k ≤ m) : cutD xs (some (k : Int)) (some (m : Int)) = (xs.drop k).take (m - k) := by
  unfold cutD
  rw [HT.sIx_nat, HT.sIx_nat]
  by_cases h : k ≤ xs.length
  · rw [Nat.min_eq_left h]
    by_cases h2 : m ≤ xs.length
    · rw [Nat.min_eq_left h2]
    · rw [Nat.min_eq_right (by omega), List.take_of_length_le (by rw [List.length_drop]; omega), List.take_of_length_le (by rw [List.length_drop]; omega)]
  · rw [Nat.min_eq_right (by omega : xs.length ≤ k), List.drop_of_length_le (Nat.le_refl _), List.drop_of_length_le (by omega)]; simp
theorem to3 (ps : List Str) : cutD (ps.map D.str) none (some 3) = (ps.take 3).map D.str := by rw [show (3 : Int) = ((3 : Nat) : Int) from rfl, cut_to, List.map_take]
theorem from3 (ps : List Str) : cutD (ps.map D.str) (some 3) none = (ps.drop 3).map D.str := by rw [show (3 : Int) = ((3 : Nat) : Int) from rfl, cut_from, List.map_drop]
theorem from1 (ps : List Str) : cutD (ps.map D.str) (some 1) none = (ps.drop 1).map D.str := by rw [show (1 : Int) = ((1 : Nat) : Int) from rfl, cut_from, List.map_drop]
theorem b13 (ps : List Str) : cutD (ps.map D.str) (some 1) (some 3) = ((ps.drop 1).take 2).map D.str := by rw [show (1 : Int) = ((1 : Nat) : Int) from rfl, show (3 : Int) = ((3 : Nat) : Int) from rfl, cut_both _ _ _ (by decide), List.map_take, List.map_drop]
theorem b14 (ps : List Str) : cutD (ps.map D.str) (some 1) (some 4) = ((ps.drop 1).take 3).map D.str := by rw [show (1 : Int) = ((1 : Nat) : Int) from rfl, show (4 : Int) = ((4 : Nat) : Int) from rfl, cut_both _ _ _ (by decide), List.map_take, List.map_drop]
inductive RS where
  | text | stand | ok (n a b : Int) (ts : List Ti)
noncomputable def rdS (ps : List Str) : RS := match allO numO (ps.take 3) with
  | some [n, a, b] => (match allO tieO (ps.drop 3) with
    | some ts => if stB n a b ts = true then .ok n a b ts else .stand
    | none => .text)
  | _ => .text
def RS.out (σ : Sto) : RS → Out D
  | .text => .ex ⟨2⟩ σ
  | .stand => .ex ⟨1⟩ σ
  | .ok n a b ts => .ok (stD n a b ts) σ
def RS.D : RS → L4.D
  | .text => .str "text"
  | .stand => .str "stand"
  | .ok n a b ts => stD n a b ts
theorem stand_ap (n a b : Int) (ts : List Ti) (σ : Sto) : f_stand [.int n, .tup [.int a, .int b], .tup (ts.map Ti.D)] σ = (if stB n a b ts = true then .ok (stD n a b ts) σ else .ex ⟨1⟩ σ) := by
  have is := fun σ => stand_is n a b ts σ
  have k := stD_cl n a b ts
  have e : D.tup [.int n, .tup [.int a, .int b], .tup (ts.map Ti.D)] = stD n a b ts := rfl
  have nn : ∀ σ, oIsN (.tup (ts.map Ti.D)) .non σ = .ok (.bl false) σ := fun σ => nr rfl
  unfold f_stand g_stand
  cases h : stB n a b ts with
  | true =>
    rw [h] at is
    rw [if_pos rfl]
    generalize stD n a b ts = S at *
    generalize ts.map Ti.D = G at *
    simp [is, k, e, nn]
  | false =>
    rw [h] at is
    rw [if_neg Bool.false_ne_true]
    generalize stD n a b ts = S at *
    generalize ts.map Ti.D = G at *
    simp [is, k, e, nn, raiseK, cap]
noncomputable def tieQ (d : D) : Option D := match d with | .str x => (tieO x).map Ti.D | _ => none
theorem read_ties_lc {ps : List Str} (h : ∀ x ∈ ps, Gd x) (hl : ps.length ≤ 1000) (x0 x2 x3 : Option D) (σ : Sto) :
    eFrz (eLCX (srcS (eSl (eVar 1) (some (eC (.int 3))) none)) [] (tgN 0) bTrue (eFn 1 f_read_tie [] (aCons (eVar 0) aNil))) [x0, some (.lst (ps.map D.str)), x2, x3] σ = (match allO tieO (ps.drop 3) with | some ts => .ok (.lst (ts.map Ti.D)) σ | none => .ex ⟨2⟩ σ) := by
  have cf := from3 ps
  have := lcx_map (ix := []) (fe := eFn 1 f_read_tie [] (aCons (eVar 0) aNil)) (ds := (ps.drop 3).map D.str) (src := srcS (eSl (eVar 1) (some (eC (.int 3))) none)) (ρ := [x0, some (.lst (ps.map D.str)), x2, x3]) (σ := σ) tieQ ⟨2⟩ (by
      generalize ps.map D.str = G at *
      simp [cf, -List.map_drop]) (by simp; omega) (fun d hd j => by
      obtain ⟨x, hx, rfl⟩ := List.mem_map.mp hd
      have r := fun σ => read_tie_ap (h x (List.mem_of_mem_drop hx)) σ
      show eFn 1 f_read_tie [] (aCons (eVar 0) aNil) [some (.str x)] (σ ++ j) = (match (tieO x).map Ti.D with | some y => _ | none => _)
      cases e : tieO x with
      | none => rw [e] at r; simp [r]
      | some n => rw [e] at r; simp [r]) (fun d hd y hy => by
      obtain ⟨x, hx, rfl⟩ := List.mem_map.mp hd
      unfold tieQ at hy
      dsimp only at hy
      cases e : tieO x with
      | none => rw [e] at hy; cases hy
      | some n => rw [e] at hy; cases hy; simp [Ti.D])
  rw [this, allO_map D.str Ti.D tieO tieQ (fun _ => rfl)]
  cases allO tieO (ps.drop 3) <;> rfl
theorem oTuple_l (xs : List D) (σ : Sto) : oTuple [.lst xs] σ = .ok (.tup xs) σ := nr rfl
theorem read_stand_ap {x : Str} (h : Gd x) (σ : Sto) : f_read_stand [.str x] σ = (rdS (Txt.split x " ")).out σ := by
  have sp := fun σ => split_at_ap (x := x) (y := " ") rfl h.le σ
  have hc : (Txt.split x " ").length ≤ 901 := by rw [sp_ch]; exact split_cnt h.2
  have hg := split_gd (y := " ") h
  generalize Txt.split x " " = ps at *
  have rn0 := fun σ => read_numbers_ap (xs := ps.take 3) (fun z hz => hg z (List.mem_of_mem_take hz)) (by rw [List.length_take]; omega) 3 σ
  have lc := fun x0 x2 x3 σ => read_ties_lc hg (by omega) x0 x2 x3 σ
  have c3 := to3 ps
  unfold rdS
  unfold f_read_stand g_read_stand
  by_cases h3 : (ps.take 3).length = 3
  · have rn := fun σ => (rn0 σ).trans (if_pos (by omega))
    cases ea : allO numO (ps.take 3) with
    | none =>
      rw [ea] at rn
      show _ = Out.ex ⟨2⟩ σ
      generalize (ps.take 3).map D.str = G3 at *
      generalize ps.map D.str = G at *
      simp [sp, c3, -List.map_drop, -List.map_take, rn]
    | some ns =>
      obtain ⟨n, a, b, rfl⟩ := three ((allO_len ea).trans h3)
      rw [ea] at rn
      have rn : ∀ σ, f_read_numbers [.lst ((ps.take 3).map D.str), .int 3] σ = .ok (.lst [.int n, .int a, .int b]) σ := rn
      cases et : allO tieO (ps.drop 3) with
      | none =>
        rw [et] at lc
        show _ = Out.ex ⟨2⟩ σ
        generalize (ps.take 3).map D.str = G3 at *
        generalize ps.map D.str = G at *
        simp [sp, c3, -List.map_drop, -List.map_take, rn, lc, -eFrz_ap]
      | some ts =>
        rw [et] at lc
        have st := fun σ => stand_ap n a b ts σ
        show _ = RS.out σ (if stB n a b ts = true then .ok n a b ts else .stand)
        cases hb : stB n a b ts with
        | true =>
          rw [hb] at st
          have st : ∀ σ, f_stand [.int n, .tup [.int a, .int b], .tup (ts.map Ti.D)] σ = .ok (stD n a b ts) σ := st
          have k := stD_cl n a b ts
          rw [if_pos rfl]
          show _ = Out.ok (stD n a b ts) σ
          have lc : ∀ x0 x2 x3 σ, _ = Out.ok (D.lst (ts.map Ti.D)) σ := lc
          generalize stD n a b ts = S at *
          generalize ts.map Ti.D = GT at *
          generalize (ps.take 3).map D.str = G3 at *
          generalize ps.map D.str = G at *
          simp [sp, c3, -List.map_drop, -List.map_take, rn, lc, oTuple_l, st, k, -eFrz_ap]
        | false =>
          rw [hb] at st
          have st : ∀ σ, f_stand [.int n, .tup [.int a, .int b], .tup (ts.map Ti.D)] σ = .ex ⟨1⟩ σ := st
          rw [if_neg Bool.false_ne_true]
          show _ = Out.ex ⟨1⟩ σ
          have lc : ∀ x0 x2 x3 σ, _ = Out.ok (D.lst (ts.map Ti.D)) σ := lc
          generalize ts.map Ti.D = GT at *
          generalize (ps.take 3).map D.str = G3 at *
          generalize ps.map D.str = G at *
          simp [sp, c3, -List.map_drop, -List.map_take, rn, lc, oTuple_l, st, -eFrz_ap]
  · have rn := fun σ => (rn0 σ).trans (if_neg (by omega))
    have e : (match allO numO (ps.take 3) with | some [n, a, b] => (match allO tieO (ps.drop 3) with | some ts => if stB n a b ts = true then RS.ok n a b ts else .stand | none => .text) | _ => .text) = RS.text := by
      split
      · rename_i ea
        exact absurd (allO_len ea).symm h3
      · rfl
    rw [e]
    show _ = Out.ex ⟨2⟩ σ
    generalize (ps.take 3).map D.str = G3 at *
    generalize ps.map D.str = G at *
    simp [sp, c3, -List.map_drop, -List.map_take, rn]

theorem numD_cl (x : Str) : cl (numD x) = true := by unfold numD; cases numO x <;> simp
theorem nums_lc {xs : List Str} (h : ∀ x ∈ xs, Gd x) (hl : xs.length ≤ 1000) {src : Ev → M Src} {ρ : Ev} {σ : Sto} (hs : src ρ σ = .ok (.seq (xs.map D.str)) σ) :
    eFrz (eLC src [] (tgN 0) bTrue (eFn 1 f__law_number [] (aCons (eVar 0) aNil))) ρ σ = .ok (.lst (xs.map numD)) σ := by
  have := lc_map (ix := []) (fe := eFn 1 f__law_number [] (aCons (eVar 0) aNil)) (ds := xs.map D.str) (src := src) (ρ := ρ) (σ := σ) (fun d => match d with | .str x => numD x | _ => .non) hs (by simpa using hl) (fun d hd j => by
      obtain ⟨x, hx, rfl⟩ := List.mem_map.mp hd
      have r := fun σ => law_number_ap (h x hx).1 (h x hx).le σ
      simp [r]) (fun d hd => by
      obtain ⟨x, hx, rfl⟩ := List.mem_map.mp hd
      exact numD_cl x)
  rw [this, List.map_map]; rfl
theorem non_any : ∀ xs : List Str, ((xs.map numD).any fun z => eqF z .non) = (allO numO xs).isNone
  | [] => rfl
  | x :: xs => by
    have ih := non_any xs
    rw [List.map_cons, List.any_cons, ih]
    have e : allO numO (x :: xs) = (match numO x with | none => none | some y => match allO numO xs with | none => none | some ys => some (y :: ys)) := by
      rw [allO]
      cases numO x with
      | none => rfl
      | some n => cases allO numO xs <;> rfl
    rw [e]
    unfold numD
    cases numO x with
    | none => rfl
    | some n => cases allO numO xs <;> rfl
theorem non_in (xs : List Str) (σ : Sto) : oIn false .non (.lst (xs.map numD)) σ = .ok (.bl (allO numO xs).isNone) σ := by
  have h1 : (xs.map numD).all isF = true := by
    rw [List.all_map, List.all_eq_true]
    intro x _
    show isF (numD x) = true
    unfold numD; cases numO x <;> rfl
  have e : seqOf σ (.lst (xs.map numD)) = some (xs.map numD) := seqOf_lst _
  unfold oIn
  rw [e]
  dsimp only
  rw [h1, show isF D.non = true from rfl, if_pos (by rfl)]
  simp only [Bool.false_eq_true, if_false]
  rw [non_any]
theorem numD_map : ∀ {xs : List Str} {ns : List Int}, allO numO xs = some ns → xs.map numD = ns.map D.int
  | [], ns, h => by cases h; rfl
  | x :: xs, ns, h => by
    unfold allO at h
    cases e : numO x with
    | none => rw [e] at h; cases h
    | some n =>
      rw [e] at h
      cases ea : allO numO xs with
      | none => rw [ea] at h; cases h
      | some zs => rw [ea] at h; cases h; rw [List.map_cons, numD_map ea, List.map_cons]; unfold numD; rw [e]
theorem num_nn {xs : List Str} {ns : List Int} (h : allO numO xs = some ns) : ∀ n ∈ ns, 0 ≤ n := fun n hn => by
  obtain ⟨x, _, e⟩ := allO_mem h n hn; exact (numO_some e).1
theorem tie_nn {x : Str} {t : Ti} (h : tieO x = some t) : 0 ≤ t.p ∧ 0 ≤ t.a ∧ 0 ≤ t.w ∧ 0 ≤ t.d := by
  unfold tieO at h
  split at h
  · rename_i ea
    cases h
    have := num_nn ea
    exact ⟨this _ (by simp), this _ (by simp), this _ (by simp), this _ (by simp)⟩
  · cases h
theorem tieO_none {x : Str} (h4 : ¬ (Txt.split x "/").length = 4) : tieO x = none := by
  unfold tieO
  split
  · rename_i ea
    exact absurd (allO_len ea).symm h4
  · rfl
noncomputable abbrev bodyS : Ev → M Fl := (sSeq (sSet 4 (eFrz (eLC (srcS (eMethS oSplit (eVar 3) (aCons (eC (.str "/")) aNil))) [] (tgN 0) bTrue (eFn 1 f__law_number [] (aCons (eVar 0) aNil)))))
  (sSeq (sIf (bOr (eT (eBin oNe (eCall oLen (aCons (eVar 4) aNil)) (eC (.int 4)))) (eT (eBin (oIn false) (eC .non) (eVar 4)))) (sRet (eC (.str "text"))) sNil)
  (sExp (eMeth oAppend (eVar 2) (aCons (eTup (aCons (eBin oIx (eVar 4) (eC (.int 0))) (aCons (eBin oIx (eVar 4) (eC (.int 1))) (aCons (eBin oIx (eVar 4) (eC (.int 2))) (aCons (eBin oIx (eVar 4) (eC (.int 3))) aNil))))) aNil)))))
theorem bodyS_ap {w : Str} (h : Gd w) {acc : List D} (ha : acc.length < 1000) (v0 v1 v4 v5 v6 v7 : Option D) :
    bodyS [v0, v1, some (.ref 0), some (.str w), v4, v5, v6, v7] [.lst acc] = (match tieO w with
      | some t => .ok (.nx [v0, v1, some (.ref 0), some (.str w), some (.lst ((Txt.split w "/").map numD)), v5, v6, v7]) [.lst (acc ++ [t.D])]
      | none => .ok (.rt (.str "text")) [.lst acc]) := by
  have hc : (Txt.split w "/").length ≤ 901 := by rw [sl_ch]; exact split_cnt h.2
  have sp := fun σ => oSplit_ap (z := w) (y := "/") (spOk_of rfl h.le) σ
  have lc := fun (v0 v1 v2 v4 v5 v6 v7 : Option D) σ => nums_lc (split_gd (y := "/") h) (by omega) (src := srcS (eMethS oSplit (eVar 3) (aCons (eC (.str "/")) aNil))) (ρ := [v0, v1, v2, some (.str w), v4, v5, v6, v7]) (σ := σ) (by
    generalize (Txt.split w "/").map D.str = G at *
    simp [sp])
  have ni := fun σ => non_in (Txt.split w "/") σ
  have ln : ∀ σ, oLen [.lst ((Txt.split w "/").map numD)] σ = .ok (.int (Txt.split w "/").length) σ := fun σ => by simp
  by_cases h4 : (Txt.split w "/").length = 4
  · unfold tieO
    have e4 : (((Txt.split w "/").length : Int) == 4) = true := by rw [h4]; rfl
    cases ea : allO numO (Txt.split w "/") with
    | none =>
      rw [ea] at ni
      show _ = Out.ok (Fl.rt (.str "text")) [.lst acc]
      generalize (Txt.split w "/").map numD = G at *
      simp [lc, ln, ni, e4, -eFrz_ap, -oLen_lst]
    | some ns =>
      obtain ⟨p, a, v, d, rfl⟩ := four ((allO_len ea).trans h4)
      rw [ea] at ni
      have em := numD_map ea
      show _ = Out.ok (Fl.nx [v0, v1, some (.ref 0), some (.str w), some (.lst ((Txt.split w "/").map numD)), v5, v6, v7]) [.lst (acc ++ [Ti.D ⟨p, a, v, d⟩])]
      rw [em] at lc ni ln ⊢
      simp only [List.map_cons, List.map_nil] at lc ni ln ⊢
      have ap : oAppend (.ref 0) [.tup [.int p, .int a, .int v, .int d]] [.lst acc] = .ok .non [.lst (acc ++ [Ti.D ⟨p, a, v, d⟩])] := append_end (σ := []) ha
      have mk : ∀ mm, methK oAppend mm (.ref 0) [.lst acc] = (mm [.lst acc]).bind (oAppend (.ref 0)) := fun mm => methK_ap (xs := acc) rfl
      simp [lc, ln, ni, e4, mk, ap, -eFrz_ap, -oLen_lst]
  · have e4 : (((Txt.split w "/").length : Int) == 4) = false := by
      rw [beq_eq_false_iff_ne]; omega
    rw [tieO_none h4]
    show _ = Out.ok (Fl.rt (.str "text")) [.lst acc]
    generalize (Txt.split w "/").map numD = G at *
    simp [lc, ln, e4, -eFrz_ap, -oLen_lst]
theorem loopS (v0 v1 v5 v6 v7 : Option D) : ∀ (qs : List Str) (_ : ∀ x ∈ qs, Gd x) (acc : List D) (v3 v4 : Option D), acc.length + qs.length ≤ 1000 →
    (match allO tieO qs with
      | some ts => ∃ v3' v4', loop (tgN 3) bodyS (qs.map D.str) [v0, v1, some (.ref 0), v3, v4, v5, v6, v7] [.lst acc] = .ok (.nx [v0, v1, some (.ref 0), v3', v4', v5, v6, v7]) [.lst (acc ++ ts.map Ti.D)]
      | none => ∃ a', loop (tgN 3) bodyS (qs.map D.str) [v0, v1, some (.ref 0), v3, v4, v5, v6, v7] [.lst acc] = .ok (.rt (.str "text")) [.lst a'])
  | [], _, acc, v3, v4, _ => ⟨v3, v4, by rw [List.map_nil, loop_nil]; simp⟩
  | w :: qs, h, acc, v3, v4, hl => by
    have hl' : acc.length + (qs.length + 1) ≤ 1000 := hl
    have hb := bodyS_ap (h w List.mem_cons_self) (acc := acc) (by omega) v0 v1 v4 v5 v6 v7
    have step : loop (tgN 3) bodyS ((w :: qs).map D.str) [v0, v1, some (.ref 0), v3, v4, v5, v6, v7] [.lst acc] = (bodyS [v0, v1, some (.ref 0), some (.str w), v4, v5, v6, v7] [.lst acc]).bind (loopK (loop (tgN 3) bodyS (qs.map D.str))) := by
      rw [List.map_cons, loop_tgN]; rfl
    unfold allO
    cases et : tieO w with
    | none =>
      rw [et] at hb
      exact ⟨acc, by rw [step, hb]; rfl⟩
    | some t =>
      rw [et] at hb
      have ih := loopS v0 v1 v5 v6 v7 qs (fun x hx => h x (List.mem_cons_of_mem _ hx)) (acc ++ [t.D]) (some (.str w)) (some (.lst ((Txt.split w "/").map numD))) (by simp; omega)
      cases ea : allO tieO qs with
      | none =>
        rw [ea] at ih
        obtain ⟨a', e⟩ := ih
        exact ⟨a', by rw [step, hb]; show loop _ _ _ _ _ = _; rw [e]⟩
      | some ts =>
        rw [ea] at ih
        obtain ⟨x3, x4, e⟩ := ih
        exact ⟨x3, x4, by rw [step, hb]; show loop _ _ _ _ _ = _; rw [e]; simp⟩
/-! the ties are held against their bounds -/
noncomputable abbrev bodyC : Ev → M Fl := (sIf (bOr (eT (eBin oGt (eVar 5) (eC (.int 1)))) (bOr (bNot (eT (eChain oLe oLe (eC (.int 1)) (eVar 6) (eBin oPow (eC (.int 10)) (eC (.int 12)))))) (bOr (eT (eBin oGt (eVar 3) (eC (.int 59)))) (eT (eBin oGt (eVar 7) (eBin oPow (eC (.int 10)) (eC (.int 6)))))))) (sRet (eC (.str "stand"))) sNil)
abbrev tgC : D → Ev → Option Ev := tgT 4 (tgCons (tgN 5) (tgCons (tgN 6) (tgCons (tgN 3) (tgCons (tgN 7) tgNil))))
def okT (t : Ti) : Bool := decide (t.p ≤ 1) && ((decide (1 ≤ t.a) && decide (t.a ≤ 1000000000000)) && (decide (t.w ≤ 59) && decide (t.d ≤ 1000000)))
theorem gt_le (a b : Int) : decide (a > b) = !decide (a ≤ b) := by
  by_cases h : a ≤ b
  · rw [decide_eq_true h, decide_eq_false (by omega)]; rfl
  · rw [decide_eq_false h, decide_eq_true (by omega)]; rfl
theorem bodyC_ap (t : Ti) (v0 v1 v2 v4 : Option D) (σ : Sto) : bodyC [v0, v1, v2, some (.int t.w), v4, some (.int t.p), some (.int t.a), some (.int t.d)] σ = (if okT t = true then .ok (.nx [v0, v1, v2, some (.int t.w), v4, some (.int t.p), some (.int t.a), some (.int t.d)]) σ else .ok (.rt (.str "stand")) σ) := by
  unfold okT
  have g1 := gt_le t.p 1
  have g2 := gt_le t.w 59
  have g3 := gt_le t.d 1000000
  cases h1 : decide (t.p ≤ 1) <;> cases h2 : decide (1 ≤ t.a) <;> cases h3 : decide (t.a ≤ 1000000000000) <;> cases h4 : decide (t.w ≤ 59) <;> cases h5 : decide (t.d ≤ 1000000) <;> (rw [h1] at g1; rw [h4] at g2; rw [h5] at g3; simp only [gt_iff_lt] at g1 g2 g3; simp [g1, g2, g3, h2, h3])

theorem chk_loop {L : List D} (v0 v1 v2 v4 : Option D) : ∀ (ts : List Ti) (i k : Nat) (v3 v5 v6 v7 : Option D), L.drop i = ts.map Ti.D → i + ts.length = L.length → ts.length < k →
    (if ts.all okT = true then ∃ v3' v5' v6' v7', loopL tgC bodyC 0 k i [v0, v1, v2, v3, v4, v5, v6, v7] [.lst L] = .ok (.nx [v0, v1, v2, v3', v4, v5', v6', v7']) [.lst L]
      else loopL tgC bodyC 0 k i [v0, v1, v2, v3, v4, v5, v6, v7] [.lst L] = .ok (.rt (.str "stand")) [.lst L])
  | [], i, k + 1, v3, v5, v6, v7, hd, hl, hk => by
    have e : L[i]? = none := by
      have hl' : i + 0 = L.length := hl
      exact List.getElem?_eq_none_iff.mpr (by omega)
    rw [List.all_nil, if_pos rfl]
    refine ⟨v3, v5, v6, v7, ?_⟩
    rw [loopL]
    show (match L[i]? with | none => _ | some d => _) = _
    rw [e]
  | t :: ts, i, k + 1, v3, v5, v6, v7, hd, hl, hk => by
    have hi : i < L.length := by have hl' : i + (ts.length + 1) = L.length := hl; omega
    have e : L[i]? = some t.D := by
      have z := List.drop_eq_getElem_cons hi
      rw [hd, List.map_cons] at z
      rw [List.getElem?_eq_getElem hi]
      exact congrArg some (List.cons.inj z).1.symm
    have hd' : L.drop (i + 1) = ts.map Ti.D := by
      have z := List.drop_eq_getElem_cons hi
      rw [hd, List.map_cons] at z
      exact (List.cons.inj z).2.symm
    have ih := chk_loop v0 v1 v2 v4 ts (i + 1) k (some (.int t.w)) (some (.int t.p)) (some (.int t.a)) (some (.int t.d)) hd' (by have hl' : i + (ts.length + 1) = L.length := hl; omega) (by have hk' : ts.length + 1 < k + 1 := hk; omega)
    have hb := bodyC_ap t v0 v1 v2 v4 [.lst L]
    have step : loopL tgC bodyC 0 (k + 1) i [v0, v1, v2, v3, v4, v5, v6, v7] [.lst L] = (bodyC [v0, v1, v2, some (.int t.w), v4, some (.int t.p), some (.int t.a), some (.int t.d)] [.lst L]).bind (loopK (loopL tgC bodyC 0 k (i + 1))) := by
      rw [loopL]
      show (match L[i]? with | none => _ | some d => _) = _
      rw [e]
      rfl
    rw [List.all_cons]
    cases ho : okT t with
    | false =>
      rw [ho, if_neg Bool.false_ne_true] at hb
      rw [Bool.false_and, if_neg Bool.false_ne_true, step, hb]; rfl
    | true =>
      rw [ho, if_pos rfl] at hb
      rw [Bool.true_and]
      cases ha : ts.all okT with
      | false =>
        rw [ha, if_neg Bool.false_ne_true] at ih
        rw [if_neg Bool.false_ne_true, step, hb]
        exact ih
      | true =>
        rw [ha, if_pos rfl] at ih
        obtain ⟨x3, x5, x6, x7, ih⟩ := ih
        rw [if_pos rfl]
        exact ⟨x3, x5, x6, x7, by rw [step, hb]; exact ih⟩
/-- a comprehension over a list that may change, and does not -/
theorem lcL_go {fe : Ev → M D} {ds : List D} {rest : Ev} {σ0 : Sto} {n : Nat} (y : D → D) (hn : lstAt σ0 n = some ds) (step : ∀ d ∈ ds, ∀ j, fe (some d :: rest) (σ0 ++ j) = .ok (y d) (σ0 ++ j)) (hl : ds.length ≤ 1000) :
    ∀ (k i : Nat) (o : Option D) (ys : List D), ds.length < k + i → i ≤ ds.length → ys.length ≤ i →
      lcLoop (.lref n) σ0.length (tgN 0) bTrue fe k i (o :: rest) (σ0 ++ [.lst ys]) = .ok () (σ0 ++ [.lst (ys ++ (ds.drop i).map y)]) := by
  intro k
  induction k with
  | zero => intro i o ys h1 h2; omega
  | succ k ih =>
    intro i o ys h1 h2 hy
    have en : lstAt (σ0 ++ [.lst ys]) n = some ds := by
      have z := lstAt_some hn
      have hlt := (List.getElem?_eq_some_iff.mp z).1
      unfold lstAt
      rw [List.getElem?_append_left hlt, z]
    have ex : (Src.lref n).nx i (σ0 ++ [.lst ys]) = some ds[i]? := by show (lstAt _ n).map _ = _; rw [en]; rfl
    unfold lcLoop
    rw [ex]
    cases e : ds[i]? with
    | none =>
      have hi : ds.length ≤ i := List.getElem?_eq_none_iff.mp e
      rw [List.drop_eq_nil_of_le hi]; simp
    | some d =>
      obtain ⟨hi, ed⟩ := List.getElem?_eq_some_iff.mp e
      have hd : ds.drop i = d :: ds.drop (i + 1) := by rw [← ed]; exact List.drop_eq_getElem_cons hi
      have s2 := step d (by rw [← ed]; exact List.getElem_mem hi) [.lst ys]
      show bnd (nox (bTrue (some d :: rest))) _ _ = _
      rw [bnd_ap, nox_ok (show bTrue (some d :: rest) (σ0 ++ [.lst ys]) = .ok true (σ0 ++ [.lst ys]) from rfl), bind_ok]
      dsimp only [List.set]
      rw [if_pos rfl, bnd_ap, nox_ok s2, bind_ok, bnd_ap, append_end (by omega), bind_ok, ih (i + 1) (some d) (ys ++ [y d]) (by omega) (by omega) (by simp; omega), hd]
      simp
theorem lcL_map {src : Ev → M Src} {ix : List Nat} {fe : Ev → M D} {ds : List D} {ρ : Ev} {σ : Sto} {n : Nat} (y : D → D) (hs : src ρ σ = .ok (.lref n) σ) (hn : lstAt σ n = some ds) (hl : ds.length ≤ 1000)
    (step : ∀ d ∈ ds, ∀ j, fe (some d :: (ix.map fun i => (ρ[i]?).getD none)) (σ ++ j) = .ok (y d) (σ ++ j)) (hc : ∀ d ∈ ds, cl (y d) = true) :
    eFrz (eLC src ix (tgN 0) bTrue fe) ρ σ = .ok (.lst (ds.map y)) σ := by
  show frzO σ (eLC src ix (tgN 0) bTrue fe ρ σ) = _
  have e : eLC src ix (tgN 0) bTrue fe ρ σ = .ok (.ref σ.length) (σ ++ [.lst (ds.map y)]) := by
    show bnd (src ρ) (lcK (tgN 0) bTrue fe (blkEv ix ρ)) σ = _
    rw [bnd_ap, hs, bind_ok]
    show bnd (lcLoop (.lref n) σ.length (tgN 0) bTrue fe 1001 0 (none :: (ix.map fun i => (ρ[i]?).getD none))) _ (σ ++ [.lst []]) = _
    rw [bnd_ap, lcL_go y hn step hl 1001 0 none [] (by omega) (by omega) (by simp), bind_ok]
    simp
  rw [e]
  have := frzO_lst (σ := σ) (j := []) (j' := []) (xs := ds.map y) (clL_all fun d hd => by obtain ⟨x, hx, rfl⟩ := List.mem_map.mp hd; exact hc x hx)
  simpa using this

noncomputable abbrev tail2 : Ev → M Fl := (sSeq (sFor (srcS (eVar 2)) tgC bodyC)
  (sSeq (sIf (eT (eBin oNe (eUn oLenSet (eFrz (eLC (srcS (eVar 2)) [] (tgN 0) bTrue (eBin oIx (eVar 0) (eC (.int 2)))))) (eCall oLen (aCons (eVar 2) aNil)))) (sRet (eC (.str "stand"))) sNil)
  (sRet (eTup (aCons (eBin oIx (eVar 1) (eC (.int 0))) (aCons (eTup (aCons (eBin oIx (eVar 1) (eC (.int 1))) (aCons (eBin oIx (eVar 1) (eC (.int 2))) aNil))) (aCons (eCall oTuple (aCons (eVar 2) aNil)) aNil)))))))
noncomputable abbrev tail1 : Ev → M Fl := (sSeq (sIf (bOr (eT (eBin oLt (eCall oLen (aCons (eVar 1) aNil)) (eC (.int 3)))) (eT (eBin (oIn false) (eC .non) (eVar 1)))) (sRet (eC (.str "text"))) sNil)
  (sSeq (sIf (bOr (eT (eBin oGt (eBin oIx (eVar 1) (eC (.int 0))) (eBin oPow (eC (.int 10)) (eC (.int 6))))) (bOr (eT (eBin oGt (eCall (oMnI mxL) (aCons (eVar 1) aNil)) (eBin oMul (eC (.int 2)) (eBin oPow (eC (.int 10)) (eC (.int 12)))))) (eT (eBin oGt (eCall oLen (aCons (eVar 2) aNil)) (eC (.int 6)))))) (sRet (eC (.str "stand"))) sNil)
  tail2))
theorem seqK2_r0 (L : List D) : seqK2 (.ref 0) [.lst L] = .ok (.lref 0) [.lst L] := nr rfl
theorem forK_r0 (tg : D → Ev → Option Ev) (body : Ev → M Fl) (ρ : Ev) (σ : Sto) : forK tg body ρ (.lref 0) σ = loopL tg body 0 1001 0 ρ σ := nr rfl
theorem oLen_r0 (L : List D) : oLen [.ref 0] [.lst L] = .ok (.int L.length) [.lst L] := nr rfl
theorem oTuple_r0 (L : List D) : oTuple [.ref 0] [.lst L] = .ok (.tup L) [.lst L] := nr rfl
noncomputable def goodT (ts : List Ti) : Bool := ts.all okT && decide (ts.map (·.w)).Nodup
theorem tail2_ap (n a b : Int) (ts : List Ti) (hl : ts.length ≤ 1000) (v0 v3 v4 v5 v6 v7 : Option D) :
    tail2 [v0, some (.lst [.int n, .int a, .int b]), some (.ref 0), v3, v4, v5, v6, v7] [.lst (ts.map Ti.D)] = .ok (.rt (if goodT ts = true then stD n a b ts else .str "stand")) [.lst (ts.map Ti.D)] := by
  have cl := chk_loop (L := ts.map Ti.D) v0 (some (.lst [.int n, .int a, .int b])) (some (.ref 0)) v4 ts 0 1001 v3 v5 v6 v7 (by simp) (by simp) (by omega)
  have lc := fun (v0 v1 v3 v4 v5 v6 v7 : Option D) => lcL_map (ix := []) (fe := eBin oIx (eVar 0) (eC (.int 2))) (ds := ts.map Ti.D) (ρ := [v0, v1, some (.ref 0), v3, v4, v5, v6, v7]) (σ := [.lst (ts.map Ti.D)]) (n := 0) (src := srcS (eVar 2)) (fun d => match d with | .tup [_, _, w, _] => w | _ => .non) (by
    generalize ts.map Ti.D = G
    simp [seqK2_r0]) rfl (by simpa using hl) (fun d hd j => by obtain ⟨t, _, rfl⟩ := List.mem_map.mp hd; simp [Ti.D]) (fun d hd => by obtain ⟨t, _, rfl⟩ := List.mem_map.mp hd; simp [Ti.D])
  have em : (ts.map Ti.D).map (fun d => match d with | .tup [_, _, w, _] => w | _ => .non) = (ts.map (·.w)).map D.int := by rw [List.map_map, List.map_map]; rfl
  rw [em] at lc
  have l3 := fun σ : Sto => oLenSet_ints (σ := σ) (l := ts.map (·.w)) (by simpa using hl)
  have l5 : (((ddp (ts.map (·.w))).length : Int) == (ts.length : Int)) = decide (ts.map (·.w)).Nodup := by
    rw [Bool.eq_iff_iff, beq_iff_eq, decide_eq_true_eq]
    have := ddp_len (ts.map (·.w)); rwa [List.length_map] at this
  have ln := oLen_r0 (ts.map Ti.D)
  rw [List.length_map] at ln
  have ot := oTuple_r0 (ts.map Ti.D)
  have es : D.tup [.int n, .tup [.int a, .int b], .tup (ts.map Ti.D)] = stD n a b ts := rfl
  have sk := seqK2_r0 (ts.map Ti.D)
  unfold goodT
  unfold bodyC tgC at cl
  generalize (ts.map (·.w)).map D.int = GW at *
  generalize hS : stD n a b ts = S at *
  generalize hG : ts.map Ti.D = G at *
  cases ha : ts.all okT with
  | false =>
    rw [ha, if_neg Bool.false_ne_true] at cl
    simp only [sSeq_ap, sFor_ap, srcS_ap, eVar_0, eVar_S, bind_ok, sk, xsO_ok, forK_r0, cl]
    simp
  | true =>
    rw [ha, if_pos rfl] at cl
    obtain ⟨w3, w5, w6, w7, cl⟩ := cl
    simp only [sSeq_ap, sFor_ap, srcS_ap, eVar_0, eVar_S, bind_ok, sk, xsO_ok, forK_r0, cl]
    cases hd : decide (ts.map (·.w)).Nodup with
    | false =>
      rw [hd] at l5
      simp [lc, l3, l5, ln, -eFrz_ap]
    | true =>
      rw [hd] at l5
      simp [lc, l3, l5, ln, ot, es, -eFrz_ap]

theorem mx3 (n a b : Int) (σ : Sto) : oMnI mxL [.lst [.int n, .int a, .int b]] σ = .ok (.int (max (max n a) b)) σ := by
  have e : mxL [n, a, b] = max (max n a) b := by simp [mxL]
  simp [oMnI, lsOf, intsOf, e]
theorem tail1_text {N : List D} (h : N.length < 3) (L : List D) (v0 v3 v4 v5 v6 v7 : Option D) : tail1 [v0, some (.lst N), some (.ref 0), v3, v4, v5, v6, v7] [.lst L] = .ok (.rt (.str "text")) [.lst L] := by
  have ln : ∀ σ, oLen [.lst N] σ = .ok (.int N.length) σ := fun σ => by simp
  have c : decide ((N.length : Int) < 3) = true := by simp; omega
  simp [ln, c, -oLen_lst]
theorem tail1_non {N : List D} (h : ¬ N.length < 3) (hn : ∀ σ, oIn false .non (.lst N) σ = .ok (.bl true) σ) (L : List D) (v0 v3 v4 v5 v6 v7 : Option D) : tail1 [v0, some (.lst N), some (.ref 0), v3, v4, v5, v6, v7] [.lst L] = .ok (.rt (.str "text")) [.lst L] := by
  have ln : ∀ σ, oLen [.lst N] σ = .ok (.int N.length) σ := fun σ => by simp
  have c : decide ((N.length : Int) < 3) = false := decide_eq_false (by omega)
  simp [ln, c, hn, -oLen_lst]
theorem okT_tieB {t : Ti} (h : 0 ≤ t.p ∧ 0 ≤ t.a ∧ 0 ≤ t.w ∧ 0 ≤ t.d) : okT t = tieB t := by
  unfold okT tieB
  rw [decide_eq_true h.1, decide_eq_true h.2.2.1, decide_eq_true h.2.2.2]
  simp only [Bool.true_and]
theorem all_congr' {α : Type} {f g : α → Bool} : ∀ {l : List α}, (∀ x ∈ l, f x = g x) → l.all f = l.all g
  | [], _ => rfl
  | a :: l, h => by rw [List.all_cons, List.all_cons, h a List.mem_cons_self, all_congr' fun x hx => h x (List.mem_cons_of_mem _ hx)]
theorem stB_good {n a b : Int} {ts : List Ti} (h0 : 0 ≤ n ∧ 0 ≤ a ∧ 0 ≤ b) (ht : ∀ t ∈ ts, 0 ≤ t.p ∧ 0 ≤ t.a ∧ 0 ≤ t.w ∧ 0 ≤ t.d) : stB n a b ts = (decide (n ≤ 1000000) && (decide (max (max n a) b ≤ 2000000000000) && (decide (ts.length ≤ 6) && goodT ts))) := by
  have e1 : ts.all okT = ts.all tieB := all_congr' fun t h => okT_tieB (ht t h)
  unfold stB tiesB goodT
  rw [e1]
  by_cases h1 : n ≤ 1000000
  · have e2 : decide (max (max n a) b ≤ 2000000000000) = (decide (a ≤ 2000000000000) && decide (b ≤ 2000000000000)) := by
      rw [Bool.eq_iff_iff, Bool.and_eq_true, decide_eq_true_eq, decide_eq_true_eq, decide_eq_true_eq]; omega
    rw [e2, decide_eq_true h0.1, decide_eq_true h0.2.1, decide_eq_true h0.2.2, decide_eq_true h1]
    simp only [Bool.true_and, Bool.and_assoc]
  · rw [decide_eq_false h1]; simp
theorem tail1_num {n a b : Int} {ts : List Ti} (h0 : 0 ≤ n ∧ 0 ≤ a ∧ 0 ≤ b) (ht : ∀ t ∈ ts, 0 ≤ t.p ∧ 0 ≤ t.a ∧ 0 ≤ t.w ∧ 0 ≤ t.d) (hl : ts.length ≤ 1000) (hn : ∀ σ, oIn false .non (.lst [.int n, .int a, .int b]) σ = .ok (.bl false) σ) (v0 v3 v4 v5 v6 v7 : Option D) :
    tail1 [v0, some (.lst [.int n, .int a, .int b]), some (.ref 0), v3, v4, v5, v6, v7] [.lst (ts.map Ti.D)] = .ok (.rt (if stB n a b ts = true then stD n a b ts else .str "stand")) [.lst (ts.map Ti.D)] := by
  have t2 := fun v0 v3 v4 v5 v6 v7 => tail2_ap n a b ts hl v0 v3 v4 v5 v6 v7
  have mx := fun σ => mx3 n a b σ
  have mu : ∀ σ, oMul (.int 2) (.int 1000000000000) σ = .ok (.int 2000000000000) σ := fun σ => oMul_ap (by simp [cMul])
  have ln := oLen_r0 (ts.map Ti.D)
  rw [List.length_map] at ln
  rw [stB_good h0 ht]
  have g1 := gt_le n 1000000
  have g2 := gt_le (max (max n a) b) 2000000000000
  have g3 := gt_le (ts.length : Int) 6
  have d3 : decide ((ts.length : Int) ≤ 6) = decide (ts.length ≤ 6) := by
    rw [Bool.eq_iff_iff, decide_eq_true_eq, decide_eq_true_eq]; omega
  rw [d3] at g3
  unfold tail1
  generalize tail2 = T2 at *
  generalize max (max n a) b = M at *
  generalize stD n a b ts = S at *
  generalize ts.map Ti.D = G at *
  cases h1 : decide (n ≤ 1000000) with
  | false =>
    rw [h1] at g1
    simp only [gt_iff_lt] at g1
    simp [hn, g1]
  | true =>
    rw [h1] at g1
    cases h2 : decide (M ≤ 2000000000000) with
    | false =>
      rw [h2] at g2
      simp only [gt_iff_lt] at g1 g2
      simp [hn, g1, g2, mx, mu]
    | true =>
      rw [h2] at g2
      cases h3 : decide (ts.length ≤ 6) with
      | false =>
        rw [h3] at g3
        simp only [gt_iff_lt] at g1 g2 g3
        simp [hn, g1, g2, g3, mx, mu, ln]
      | true =>
        rw [h3] at g3
        simp only [gt_iff_lt] at g1 g2 g3
        simp [hn, g1, g2, g3, mx, mu, ln, t2]
theorem RS.cl (r : RS) : L4.cl r.D = true := by cases r <;> simp [RS.D]
theorem stand_of_ap {ps : List Str} (h : ∀ x ∈ ps, Gd x) (hl : ps.length ≤ 901) : f__law_stand_of [.lst (ps.map D.str)] [] = .ok (rdS ps).D [] := by
  have c3 := to3 ps
  have f3 := from3 ps
  have lc := fun (v1 v2 v3 v4 v5 v6 v7 : Option D) σ => nums_lc (xs := ps.take 3) (fun x hx => h x (List.mem_of_mem_take hx)) (by rw [List.length_take]; omega) (src := srcS (eSl (eVar 0) none (some (eC (.int 3))))) (ρ := [some (.lst (ps.map D.str)), v1, v2, v3, v4, v5, v6, v7]) (σ := σ) (by
    generalize (ps.take 3).map D.str = G3 at *
    generalize ps.map D.str = G at *
    simp [c3])
  have lp := loopS (some (.lst (ps.map D.str))) (some (.lst ((ps.take 3).map numD))) none none none (ps.drop 3) (fun x hx => h x (List.mem_of_mem_drop hx)) [] none none (by rw [List.length_drop]; simp; omega)
  have eg : g__law_stand_of = (sSeq (sSet 1 (eFrz (eLC (srcS (eSl (eVar 0) none (some (eC (.int 3))))) [] (tgN 0) bTrue (eFn 1 f__law_number [] (aCons (eVar 0) aNil)))))
    (sSeq (sSet 2 (eLst aNil)) (sSeq (sFor (srcS (eSl (eVar 0) (some (eC (.int 3))) none)) (tgN 3) bodyS) tail1))) := nr rfl
  have fin : ∀ (d : D) (L : List D), L4.cl d = true → g__law_stand_of [some (.lst (ps.map D.str)), none, none, none, none, none, none, none] [] = .ok (.rt d) [.lst L] → f__law_stand_of [.lst (ps.map D.str)] [] = .ok d [] := fun d L hc e => by
    unfold f__law_stand_of
    rw [hide_eq, frz_ap]
    have : run 8 g__law_stand_of [.lst (ps.map D.str)] [] = .ok d [.lst L] := by
      show runO (g__law_stand_of [some (.lst (ps.map D.str)), none, none, none, none, none, none, none] []) = _
      rw [e]; rfl
    rw [this]
    exact frzO_cl hc rfl
  have ni := fun σ => non_in (ps.take 3) σ
  have head : ∀ T1 : Ev → M Fl, (sSeq (sSet 1 (eFrz (eLC (srcS (eSl (eVar 0) none (some (eC (.int 3))))) [] (tgN 0) bTrue (eFn 1 f__law_number [] (aCons (eVar 0) aNil)))))
    (sSeq (sSet 2 (eLst aNil)) (sSeq (sFor (srcS (eSl (eVar 0) (some (eC (.int 3))) none)) (tgN 3) bodyS) T1))) [some (.lst (ps.map D.str)), none, none, none, none, none, none, none] [] = (loop (tgN 3) bodyS ((ps.drop 3).map D.str) [some (.lst (ps.map D.str)), some (.lst ((ps.take 3).map numD)), some (.ref 0), none, none, none, none, none] [.lst []]).bind (seqK T1) := fun T1 => by
    generalize (ps.take 3).map D.str = G3 at *
    generalize (ps.drop 3).map D.str = G4 at *
    generalize (ps.take 3).map numD = N at *
    generalize ps.map D.str = G at *
    generalize bodyS = B at *
    have ls : ∀ σ, eLst aNil [some (D.lst G), some (D.lst N), none, none, none, none, none, none] σ = .ok (.ref σ.length) (σ ++ [.lst []]) := fun σ => nr rfl
    simp [lc, f3, ls, -eFrz_ap, -sFor_ap]
    simp only [sFor_ap, srcS_ap, eSl_ap, eVar_0, bind_ok, sl0K_ap, ePart_s, ePart_n, eC_ap, partK_i, sl1K_ap, sl2K_lst', f3, seqK2_lst, xsO_ok, forK_seq]
  cases et : allO tieO (ps.drop 3) with
  | none =>
    rw [et] at lp
    obtain ⟨a', lp⟩ := lp
    have er : rdS ps = .text := by unfold rdS; rw [et]; split <;> rfl
    rw [er]
    refine fin (.str "text") a' (by simp) ?_
    rw [eg, head, lp]; rfl
  | some ts =>
    rw [et] at lp
    obtain ⟨x3, x4, lp⟩ := lp
    rw [List.nil_append] at lp
    have ht : ∀ t ∈ ts, 0 ≤ t.p ∧ 0 ≤ t.a ∧ 0 ≤ t.w ∧ 0 ≤ t.d := fun t h => by obtain ⟨x, _, e⟩ := allO_mem et t h; exact tie_nn e
    have hlt : ts.length ≤ 1000 := by have := allO_len et; rw [List.length_drop] at this; omega
    by_cases h3 : (ps.take 3).length = 3
    · cases ea : allO numO (ps.take 3) with
      | none =>
        have er : rdS ps = .text := by unfold rdS; rw [ea]
        rw [er]
        rw [ea] at ni
        refine fin (.str "text") (ts.map Ti.D) (by simp) ?_
        rw [eg, head, lp, bind_ok, seqK_nx, tail1_non (by rw [List.length_map]; omega) ni]
      | some ns =>
        obtain ⟨n, a, b, rfl⟩ := three ((allO_len ea).trans h3)
        have em := numD_map ea
        have nn := num_nn ea
        rw [ea] at ni
        rw [em] at ni
        have er : rdS ps = (if stB n a b ts = true then .ok n a b ts else .stand) := by unfold rdS; rw [ea, et]
        have t1 := fun v0 v3 v4 v5 v6 v7 => tail1_num (n := n) (a := a) (b := b) ⟨nn _ (by simp), nn _ (by simp), nn _ (by simp)⟩ ht hlt ni v0 v3 v4 v5 v6 v7
        have ed : (if stB n a b ts = true then stD n a b ts else .str "stand") = (rdS ps).D := by rw [er]; cases stB n a b ts <;> rfl
        refine fin _ (ts.map Ti.D) (RS.cl _) ?_
        rw [← ed]
        rw [eg, head, lp, bind_ok, seqK_nx, em]
        exact t1 _ _ _ _ _ _
    · have er : rdS ps = .text := by
        unfold rdS
        split
        · rename_i ea
          exact absurd (allO_len ea).symm h3
        · rfl
      rw [er]
      refine fin (.str "text") (ts.map Ti.D) (by simp) ?_
      rw [eg, head, lp, bind_ok, seqK_nx, tail1_text (by rw [List.length_map]; rw [List.length_take] at h3 ⊢; omega)]

theorem jl_sub1 (g p : List Nat) : ∀ r : List (List Nat), (jl g r).Sublist (jl g (p :: r))
  | [] => by simp [jl]
  | q :: r => by
    simp only [jl, List.flatMap_cons]
    have h1 : (q ++ r.flatMap fun q => g ++ q).Sublist (g ++ q ++ r.flatMap fun q => g ++ q) := by
      rw [List.append_assoc]; exact List.sublist_append_right _ _
    exact h1.trans (List.sublist_append_right _ _)
theorem jl_drop (g : List Nat) : ∀ (k : Nat) (ps : List (List Nat)), (jl g (ps.drop k)).Sublist (jl g ps)
  | 0, ps => by rw [List.drop_zero]; exact List.Sublist.refl _
  | k + 1, [] => by simp
  | k + 1, p :: r => by rw [List.drop_succ_cons]; exact (jl_drop g k r).trans (jl_sub1 g p r)
theorem join_gd {ps : List Str} (h : Gd (Txt.join " " ps)) (k : Nat) : Gd (Txt.join " " (ps.drop k)) := by
  have s := jl_drop (" " : Str).cps.toList k (ps.map fun y => y.cps.toList)
  rw [← List.map_drop, ← join_list', ← join_list'] at s
  refine ⟨fun c hc => h.1 c (s.subset hc), ?_⟩
  have := s.length_le
  rw [len_list, len_list] at this
  have := h.2
  omega
theorem split_nil : Txt.split (Txt.join " " []) " " = [("" : Str)] := by decide
theorem rdS_join {qs : List Str} (h : ∀ z ∈ qs, 32 ∉ z.cps.toList) : rdS (Txt.split (Txt.join " " qs) " ") = rdS qs := by
  cases qs with
  | nil =>
    rw [split_nil]
    have e : numO "" = none := numO_none (by decide)
    unfold rdS
    simp [allO, e]
  | cons y l =>
    rw [sp_ch, split_join (by decide) h]
inductive RT where
  | text | stand | ok (t : Th)
noncomputable def prT (k : Str) (qs : List Str) : RT :=
  if k == "word" then (match allO numO qs with | some [n] => .ok (.word n) | _ => .text)
  else if k == "strike" then (match allO numO qs with | some [p, s, n] => .ok (.strike p s n) | _ => .text)
  else if k == "agree" then (match allO numO (qs.take 2) with
    | some [p, s] => (match rdS (qs.drop 2) with | .text => .text | .stand => .stand | .ok n a b ts => .ok (.agree p s n a b ts))
    | _ => .text)
  else .text
noncomputable def rdT (k : Str) (qs : List Str) : RT := match prT k qs with | .ok t => if isTh t = true then .ok t else .text | r => r
def RT.out (σ : Sto) : RT → Out D
  | .text => .ex ⟨2⟩ σ
  | .stand => .ex ⟨1⟩ σ
  | .ok t => .ok (thD t) σ
def RT.D : RT → L4.D
  | .text => .str "text"
  | .stand => .str "stand"
  | .ok t => thD t
theorem one {α : Type} {l : List α} (h : l.length = 1) : ∃ p, l = [p] := by
  match l, h with
  | [p], _ => exact ⟨p, rfl⟩
theorem two' {α : Type} {l : List α} (h : l.length = 2) : ∃ p q, l = [p, q] := by
  match l, h with
  | [p, q], _ => exact ⟨p, q, rfl⟩
theorem sum_gd : ∀ (qs : List Str), (∀ x ∈ qs, Gd x) → (qs.map (·.length)).sum ≤ 900 * qs.length
  | [], _ => by simp
  | x :: qs, h => by
    have h1 := (h x List.mem_cons_self).2
    have h2 := sum_gd qs fun i hi => h i (List.mem_cons_of_mem _ hi)
    simp only [List.map_cons, List.sum_cons, List.length_cons]; omega
theorem parts_ap {k : Str} {qs : List Str} (h : ∀ x ∈ k :: qs, Gd x) (hl : qs.length ≤ 900) (hf : ∀ z ∈ qs, 32 ∉ z.cps.toList) (hj : Gd (Txt.join " " (qs.drop 2))) (σ : Sto) : f_read_parts [.lst ((k :: qs).map D.str)] σ = (prT k qs).out σ := by
  have hq : ∀ x ∈ qs, Gd x := fun x hx => h x (List.mem_cons_of_mem _ hx)
  have i0 : ∀ σ, oIx (.lst ((k :: qs).map D.str)) (.int 0) σ = .ok (.str k) σ := fun σ => by rw [List.map_cons]; exact ix_l0 _ _ _
  unfold prT
  cases e1 : (k == "word") with
  | true =>
    rw [if_pos rfl]
    have c1 := from1 (k :: qs)
    rw [List.drop_one, List.tail_cons] at c1
    have rn0 := fun σ => read_numbers_ap hq (by omega) 1 σ
    unfold f_read_parts g_read_parts
    by_cases h1 : qs.length = 1
    · have rn := fun σ => (rn0 σ).trans (if_pos (by omega))
      cases ea : allO numO qs with
      | none =>
        rw [ea] at rn
        show _ = Out.ex ⟨2⟩ σ
        generalize (k :: qs).map D.str = G at *
        generalize qs.map D.str = G1 at *
        simp [i0, e1, c1, rn]
      | some ns =>
        obtain ⟨n, rfl⟩ := one ((allO_len ea).trans h1)
        rw [ea] at rn
        have rn : ∀ σ, f_read_numbers [.lst (qs.map D.str), .int 1] σ = .ok (.lst [.int n]) σ := rn
        show _ = Out.ok (D.tup [.str "word", .int n]) σ
        generalize (k :: qs).map D.str = G at *
        generalize qs.map D.str = G1 at *
        simp [i0, e1, c1, rn]
    · have rn := fun σ => (rn0 σ).trans (if_neg (by omega))
      have er : (match allO numO qs with | some [n] => RT.ok (.word n) | _ => .text) = .text := by
        split
        · rename_i ea
          exact absurd (allO_len ea).symm h1
        · rfl
      rw [er]
      show _ = Out.ex ⟨2⟩ σ
      generalize (k :: qs).map D.str = G at *
      generalize qs.map D.str = G1 at *
      simp [i0, e1, c1, rn]
  | false =>
    rw [if_neg Bool.false_ne_true]
    cases e2 : (k == "strike") with
    | true =>
      rw [if_pos rfl]
      have c1 := from1 (k :: qs)
      rw [List.drop_one, List.tail_cons] at c1
      have rn0 := fun σ => read_numbers_ap hq (by omega) 3 σ
      unfold f_read_parts g_read_parts
      by_cases h1 : qs.length = 3
      · have rn := fun σ => (rn0 σ).trans (if_pos (by omega))
        cases ea : allO numO qs with
        | none =>
          rw [ea] at rn
          show _ = Out.ex ⟨2⟩ σ
          generalize (k :: qs).map D.str = G at *
          generalize qs.map D.str = G1 at *
          simp [i0, e1, e2, c1, rn]
        | some ns =>
          obtain ⟨p, s, n, rfl⟩ := three ((allO_len ea).trans h1)
          rw [ea] at rn
          have rn : ∀ σ, f_read_numbers [.lst (qs.map D.str), .int 3] σ = .ok (.lst [.int p, .int s, .int n]) σ := rn
          have ad : ∀ σ, oAdd (.lst [.str "strike"]) (.lst [.int p, .int s, .int n]) σ = .ok (.lst [.str "strike", .int p, .int s, .int n]) σ := fun σ => by rw [oAdd_lst (by simp [cap])]; rfl
          show _ = Out.ok (D.tup [.str "strike", .int p, .int s, .int n]) σ
          generalize (k :: qs).map D.str = G at *
          generalize qs.map D.str = G1 at *
          simp [i0, e1, e2, c1, rn, ad, oTuple_l]
      · have rn := fun σ => (rn0 σ).trans (if_neg (by omega))
        have er : (match allO numO qs with | some [p, s, n] => RT.ok (.strike p s n) | _ => .text) = .text := by
          split
          · rename_i ea
            exact absurd (allO_len ea).symm h1
          · rfl
        rw [er]
        show _ = Out.ex ⟨2⟩ σ
        generalize (k :: qs).map D.str = G at *
        generalize qs.map D.str = G1 at *
        simp [i0, e1, e2, c1, rn]
    | false =>
      rw [if_neg Bool.false_ne_true]
      cases e3 : (k == "agree") with
      | true =>
        rw [if_pos rfl]
        have c1 := b13 (k :: qs)
        rw [List.drop_one, List.tail_cons] at c1
        have c2 := from3 (k :: qs)
        rw [List.drop_succ_cons] at c2
        have rn0 := fun σ => read_numbers_ap (xs := qs.take 2) (fun x hx => hq x (List.mem_of_mem_take hx)) (by rw [List.length_take]; omega) 2 σ
        have jo := fun σ => oJoin_ap (z := " ") (ys := qs.drop 2) (by
          have := sum_gd (qs.drop 2) fun x hx => hq x (List.mem_of_mem_drop hx)
          rw [List.length_drop] at this
          simp only [joOk, hide_eq, Bool.and_eq_true, decide_eq_true_eq]
          refine ⟨by decide, ?_⟩
          rw [List.length_drop]; omega) σ
        have rs := fun σ => read_stand_ap hj σ
        rw [rdS_join fun z hz => hf z (List.mem_of_mem_drop hz)] at rs
        unfold f_read_parts g_read_parts
        by_cases h1 : (qs.take 2).length = 2
        · have rn := fun σ => (rn0 σ).trans (if_pos (by omega))
          cases ea : allO numO (qs.take 2) with
          | none =>
            rw [ea] at rn
            show _ = Out.ex ⟨2⟩ σ
            generalize (k :: qs).map D.str = G at *
            generalize (qs.take 2).map D.str = G1 at *
            simp [i0, e1, e2, e3, c1, rn]
          | some ns =>
            obtain ⟨p, s, rfl⟩ := two' ((allO_len ea).trans h1)
            rw [ea] at rn
            have rn : ∀ σ, f_read_numbers [.lst ((qs.take 2).map D.str), .int 2] σ = .ok (.lst [.int p, .int s]) σ := rn
            cases er : rdS (qs.drop 2) with
            | text =>
              rw [er] at rs
              have rs : ∀ σ, f_read_stand [.str (Txt.join " " (qs.drop 2))] σ = .ex ⟨2⟩ σ := rs
              show _ = Out.ex ⟨2⟩ σ
              generalize (k :: qs).map D.str = G at *
              generalize (qs.take 2).map D.str = G1 at *
              generalize (qs.drop 2).map D.str = G2 at *
              generalize Txt.join " " (qs.drop 2) = J at *
              simp [i0, e1, e2, e3, c1, c2, rn, jo, rs]
            | stand =>
              rw [er] at rs
              have rs : ∀ σ, f_read_stand [.str (Txt.join " " (qs.drop 2))] σ = .ex ⟨1⟩ σ := rs
              show _ = Out.ex ⟨1⟩ σ
              generalize (k :: qs).map D.str = G at *
              generalize (qs.take 2).map D.str = G1 at *
              generalize (qs.drop 2).map D.str = G2 at *
              generalize Txt.join " " (qs.drop 2) = J at *
              simp [i0, e1, e2, e3, c1, c2, rn, jo, rs]
            | ok n a b ts =>
              rw [er] at rs
              have rs : ∀ σ, f_read_stand [.str (Txt.join " " (qs.drop 2))] σ = .ok (stD n a b ts) σ := rs
              have kS := stD_cl n a b ts
              show _ = Out.ok (D.tup [.str "agree", .int p, .int s, stD n a b ts]) σ
              generalize stD n a b ts = S at *
              generalize (k :: qs).map D.str = G at *
              generalize (qs.take 2).map D.str = G1 at *
              generalize (qs.drop 2).map D.str = G2 at *
              generalize Txt.join " " (qs.drop 2) = J at *
              simp [i0, e1, e2, e3, c1, c2, rn, jo, rs, kS]
        · have rn := fun σ => (rn0 σ).trans (if_neg (by omega))
          have er : (match allO numO (qs.take 2) with | some [p, s] => (match rdS (qs.drop 2) with | .text => RT.text | .stand => .stand | .ok n a b ts => .ok (.agree p s n a b ts)) | _ => .text) = .text := by
            split
            · rename_i ea
              exact absurd (allO_len ea).symm h1
            · rfl
          rw [er]
          show _ = Out.ex ⟨2⟩ σ
          generalize (k :: qs).map D.str = G at *
          generalize (qs.take 2).map D.str = G1 at *
          simp [i0, e1, e2, e3, c1, rn]
      | false =>
        rw [if_neg Bool.false_ne_true]
        show _ = Out.ex ⟨2⟩ σ
        unfold f_read_parts g_read_parts
        generalize (k :: qs).map D.str = G at *
        simp [i0, e1, e2, e3, raiseK, cap]
theorem split_cons (x : Str) : ∃ k qs, Txt.split x " " = k :: qs := by
  cases e : Txt.split x " " with
  | nil =>
    exfalso
    unfold Txt.split at e
    split at e
    · cases e
    · split at e
      · cases e
      · have := congrArg List.length e
        rw [length_partsBetween] at this
        simp at this
  | cons k qs => exact ⟨k, qs, rfl⟩
theorem read_thing_ap {x k : Str} {qs : List Str} (h : Gd x) (hx : Txt.split x " " = k :: qs) (σ : Sto) : f_read_thing [.str x] σ = (rdT k qs).out σ := by
  have sp := fun σ => split_at_ap (x := x) (y := " ") rfl h.le σ
  have hc : (Txt.split x " ").length ≤ 901 := by rw [sp_ch]; exact split_cnt h.2
  have hg := split_gd (y := " ") h
  have hfree : ∀ z ∈ Txt.split x " ", 32 ∉ z.cps.toList := fun z hz => by rw [sp_ch] at hz; exact StrLaws.split_free x 32 z hz
  have hjo : Gd (Txt.join " " (Txt.split x " ")) := by rw [join_spl]; exact h
  rw [hx] at sp hc hg hfree hjo
  have hj := join_gd hjo 3
  rw [List.drop_succ_cons] at hj
  have pa := fun σ => parts_ap hg (by simp at hc; omega) (fun z hz => hfree z (List.mem_cons_of_mem _ hz)) hj σ
  unfold rdT
  unfold f_read_thing g_read_thing
  cases ep : prT k qs with
  | text =>
    rw [ep] at pa
    have pa : ∀ σ, f_read_parts [.lst ((k :: qs).map D.str)] σ = .ex ⟨2⟩ σ := pa
    show _ = Out.ex ⟨2⟩ σ
    generalize (k :: qs).map D.str = G at *
    simp [sp, pa]
  | stand =>
    rw [ep] at pa
    have pa : ∀ σ, f_read_parts [.lst ((k :: qs).map D.str)] σ = .ex ⟨1⟩ σ := pa
    show _ = Out.ex ⟨1⟩ σ
    generalize (k :: qs).map D.str = G at *
    simp [sp, pa]
  | ok t =>
    rw [ep] at pa
    have pa : ∀ σ, f_read_parts [.lst ((k :: qs).map D.str)] σ = .ok (thD t) σ := pa
    have is := fun σ => th_is t σ
    have kt := thD_cl t
    show _ = RT.out σ (if isTh t = true then .ok t else .text)
    cases hi : isTh t with
    | true =>
      rw [hi] at is
      rw [if_pos rfl]
      show _ = Out.ok (thD t) σ
      generalize (k :: qs).map D.str = G at *
      generalize thD t = TT at *
      simp [sp, pa, is, kt]
    | false =>
      rw [hi] at is
      rw [if_neg Bool.false_ne_true]
      show _ = Out.ex ⟨2⟩ σ
      generalize (k :: qs).map D.str = G at *
      generalize thD t = TT at *
      simp [sp, pa, is, kt, raiseK, cap]

theorem rdS_nil : rdS [] = .text := by unfold rdS; simp [allO]
theorem RT.cl (r : RT) : L4.cl r.D = true := by cases r <;> simp [RT.D]
theorem lt_le1 (a b : Int) : decide (a < b + 1) = decide (a ≤ b) := by
  rw [Bool.eq_iff_iff, decide_eq_true_eq, decide_eq_true_eq]; omega
theorem ag_word {k : Str} (h : (k == "agree") = true) : k = "agree" := beq_iff_eq.mp h
theorem rdS_stB {ps : List Str} {n a b : Int} {ts : List Ti} (h : rdS ps = .ok n a b ts) : stB n a b ts = true := by
  unfold rdS at h
  split at h
  · split at h
    · split at h
      · rename_i hb; cases h; exact hb
      · cases h
    · cases h
  · cases h
theorem thing_agree {k : Str} {qs : List Str} (h : ∀ x ∈ k :: qs, Gd x) (hl : qs.length ≤ 900) (hk : (k == "agree") = true) : f__law_thing_of [.lst ((k :: qs).map D.str)] [] = .ok (rdT k qs).D [] := by
  have hq : ∀ x ∈ qs, Gd x := fun x hx => h x (List.mem_cons_of_mem _ hx)
  have i0 : ∀ σ, oIx (.lst ((k :: qs).map D.str)) (.int 0) σ = .ok (.str k) σ := fun σ => by rw [List.map_cons]; exact ix_l0 _ _ _
  have c1 := b14 (k :: qs)
  rw [List.drop_one, List.tail_cons] at c1
  have c2 := from3 (k :: qs)
  rw [List.drop_succ_cons] at c2
  have lc := fun (v1 v2 : Option D) σ => nums_lc (xs := qs.take 3) (fun x hx => hq x (List.mem_of_mem_take hx)) (by rw [List.length_take]; omega) (src := srcS (eSl (eVar 0) (some (eC (.int 1))) (some (eC (.int 4))))) (ρ := [some (.lst ((k :: qs).map D.str)), v1, v2]) (σ := σ) (by
    generalize (qs.take 3).map D.str = G3 at *
    generalize (k :: qs).map D.str = G at *
    simp [c1])
  have ln : ∀ σ, oLen [.lst ((k :: qs).map D.str)] σ = .ok (.int (qs.length + 1 : Nat)) σ := fun σ => by simp
  have c3 : cutD ((qs.take 3).map numD) none (some 2) = (qs.take 2).map numD := by
    rw [show (2 : Int) = ((2 : Nat) : Int) from rfl, cut_to, ← List.map_take, List.take_take]; rfl
  have ni := fun σ => non_in (qs.take 2) σ
  have kw : (k == "word") = false := by rw [ag_word hk]; decide
  have ks : (k == "strike") = false := by rw [ag_word hk]; decide
  by_cases h3 : qs.length < 3
  · have er : rdT k qs = .text := by
      have ep : prT k qs = .text := by
        unfold prT
        rw [kw, ks, hk, if_neg Bool.false_ne_true, if_neg Bool.false_ne_true, if_pos rfl, List.drop_of_length_le (by omega), rdS_nil]
        split <;> rfl
      unfold rdT; rw [ep]
    have c4 : decide (((qs.length + 1 : Nat) : Int) < 4) = true := decide_eq_true (by omega)
    rw [er]
    show _ = Out.ok (D.str "text") []
    unfold f__law_thing_of g__law_thing_of
    generalize (k :: qs).map D.str = G at *
    generalize (qs.take 3).map numD = N at *
    simp only [Int.natCast_add, Int.natCast_one] at ln c4
    simp [lc, i0, hk, ln, c4, -eFrz_ap, -oLen_lst]
  · have c4 : decide (((qs.length + 1 : Nat) : Int) < 4) = false := decide_eq_false (by omega)
    cases ea : allO numO (qs.take 2) with
    | none =>
      have er : rdT k qs = .text := by
        have ep : prT k qs = .text := by
          unfold prT
          rw [kw, ks, hk, if_neg Bool.false_ne_true, if_neg Bool.false_ne_true, if_pos rfl, ea]
        unfold rdT; rw [ep]
      rw [ea] at ni
      rw [er]
      show _ = Out.ok (D.str "text") []
      unfold f__law_thing_of g__law_thing_of
      generalize (k :: qs).map D.str = G at *
      generalize (qs.take 3).map numD = N at *
      generalize (qs.take 2).map numD = N2 at *
      simp only [Int.natCast_add, Int.natCast_one] at ln c4
      simp [lc, i0, hk, ln, c4, c3, ni, -eFrz_ap, -oLen_lst]
    | some ns =>
      obtain ⟨p, s, rfl⟩ := two' ((allO_len ea).trans (by rw [List.length_take]; omega))
      have em := numD_map ea
      have nn := num_nn ea
      have hp : 0 ≤ p := nn _ (by simp)
      have hs : 0 ≤ s := nn _ (by simp)
      rw [ea] at ni
      have eN : ∃ z, (qs.take 3).map numD = [.int p, .int s, z] := by
        match qs, h3, em with
        | [], h3, _ => exact absurd (by simp) h3
        | [_], h3, _ => exact absurd (by simp) h3
        | [_, _], h3, _ => exact absurd (by simp) h3
        | q0 :: q1 :: q2 :: r, _, em => exact ⟨numD q2, by show [numD q0, numD q1, numD q2] = _; rw [(List.cons.inj em).1, (List.cons.inj (List.cons.inj em).2).1]⟩
      obtain ⟨z, eN⟩ := eN
      have so := stand_of_ap (ps := qs.drop 2) (fun x hx => hq x (List.mem_of_mem_drop hx)) (by rw [List.length_drop]; omega)
      rw [eN] at lc c3
      have g1 := gt_le p 2
      have g2 := gt_le s 1
      have ep : prT k qs = (match rdS (qs.drop 2) with | .text => .text | .stand => .stand | .ok n a b ts => .ok (.agree p s n a b ts)) := by
        unfold prT
        rw [kw, ks, hk, if_neg Bool.false_ne_true, if_neg Bool.false_ne_true, if_pos rfl, ea]
        all_goals rfl
      unfold rdT
      rw [ep]
      unfold f__law_thing_of g__law_thing_of
      simp only [Int.natCast_add, Int.natCast_one] at ln c4
      cases er : rdS (qs.drop 2) with
      | text =>
        rw [er] at so
        have so : f__law_stand_of [.lst ((qs.drop 2).map D.str)] [] = .ok (.str "text") [] := so
        show _ = Out.ok (D.str "text") []
        generalize (k :: qs).map D.str = G at *
        generalize (qs.drop 2).map D.str = G2 at *
        generalize (qs.take 2).map numD = N2 at *
        simp [lc, i0, hk, ln, c4, c3, c2, ni, so, isb_str, -eFrz_ap, -oLen_lst]
      | stand =>
        rw [er] at so
        have so : f__law_stand_of [.lst ((qs.drop 2).map D.str)] [] = .ok (.str "stand") [] := so
        show _ = Out.ok (D.str "stand") []
        generalize (k :: qs).map D.str = G at *
        generalize (qs.drop 2).map D.str = G2 at *
        generalize (qs.take 2).map numD = N2 at *
        simp [lc, i0, hk, ln, c4, c3, c2, ni, so, isb_str, -eFrz_ap, -oLen_lst]
      | ok n a b ts =>
        rw [er] at so
        have so : f__law_stand_of [.lst ((qs.drop 2).map D.str)] [] = .ok (stD n a b ts) [] := so
        have hb := rdS_stB er
        have isb : ∀ σ, oIsB .str (stD n a b ts) σ = .ok (.bl false) σ := fun σ => by unfold stD; exact isb_ts _ _
        have kS := stD_cl n a b ts
        show _ = Out.ok (RT.D (if isTh (.agree p s n a b ts) = true then .ok (.agree p s n a b ts) else .text)) []
        have ei : isTh (.agree p s n a b ts) = (decide (p ≤ 2) && decide (s ≤ 1)) := by
          simp only [isTh, pB3]
          rw [hb, decide_eq_true hp, decide_eq_true hs]; simp
        have et : (Out.ok (RT.D (.ok (.agree p s n a b ts))) [] : Out D) = Out.ok (D.tup [.str "agree", .int p, .int s, stD n a b ts]) [] := rfl
        rw [ei]
        generalize stD n a b ts = S at *
        generalize (k :: qs).map D.str = G at *
        generalize (qs.drop 2).map D.str = G2 at *
        generalize (qs.take 2).map numD = N2 at *
        cases d1 : decide (p ≤ 2) with
        | false =>
          rw [d1] at g1
          simp only [gt_iff_lt] at g1
          show _ = Out.ok (D.str "text") []
          simp [lc, i0, hk, ln, c4, c3, c2, ni, so, isb, g1, -eFrz_ap, -oLen_lst]
        | true =>
          rw [d1] at g1
          cases d2 : decide (s ≤ 1) with
          | false =>
            rw [d2] at g2
            simp only [gt_iff_lt] at g1 g2
            show _ = Out.ok (D.str "text") []
            simp [lc, i0, hk, ln, c4, c3, c2, ni, so, isb, g1, g2, -eFrz_ap, -oLen_lst]
          | true =>
            rw [d2] at g2
            simp only [gt_iff_lt] at g1 g2
            rw [Bool.and_self, if_pos rfl, et]
            simp [lc, i0, hk, ln, c4, c3, c2, ni, so, isb, g1, g2, kS, -eFrz_ap, -oLen_lst]
theorem rdT_none {k : Str} {qs : List Str} (hk : (k == "agree") = false) (hn : allO numO (qs.take 3) = none) : rdT k qs = .text := by
  have ep : prT k qs = .text := by
    unfold prT
    cases (k == "word") with
    | true =>
      rw [if_pos rfl]
      split
      · rename_i ea
        have l := allO_len ea
        rw [List.take_of_length_le (by rw [← l]; simp), ea] at hn
        cases hn
      · rfl
    | false =>
      rw [if_neg Bool.false_ne_true]
      cases (k == "strike") with
      | true =>
        rw [if_pos rfl]
        split
        · rename_i ea
          have l := allO_len ea
          rw [List.take_of_length_le (by rw [← l]; simp), ea] at hn
          cases hn
        · rfl
      | false => rw [if_neg Bool.false_ne_true, hk, if_neg Bool.false_ne_true]
  unfold rdT; rw [ep]
theorem thing_other {k : Str} {qs : List Str} (h : ∀ x ∈ k :: qs, Gd x) (hl : qs.length ≤ 900) (hk : (k == "agree") = false) : f__law_thing_of [.lst ((k :: qs).map D.str)] [] = .ok (rdT k qs).D [] := by
  have hq : ∀ x ∈ qs, Gd x := fun x hx => h x (List.mem_cons_of_mem _ hx)
  have i0 : ∀ σ, oIx (.lst ((k :: qs).map D.str)) (.int 0) σ = .ok (.str k) σ := fun σ => by rw [List.map_cons]; exact ix_l0 _ _ _
  have c1 := b14 (k :: qs)
  rw [List.drop_one, List.tail_cons] at c1
  have lc := fun (v1 v2 : Option D) σ => nums_lc (xs := qs.take 3) (fun x hx => hq x (List.mem_of_mem_take hx)) (by rw [List.length_take]; omega) (src := srcS (eSl (eVar 0) (some (eC (.int 1))) (some (eC (.int 4))))) (ρ := [some (.lst ((k :: qs).map D.str)), v1, v2]) (σ := σ) (by
    generalize (qs.take 3).map D.str = G3 at *
    generalize (k :: qs).map D.str = G at *
    simp [c1])
  have ln : ∀ σ, oLen [.lst ((k :: qs).map D.str)] σ = .ok (.int (qs.length + 1 : Nat)) σ := fun σ => by simp
  have ni := fun σ => non_in (qs.take 3) σ
  cases ea : allO numO (qs.take 3) with
  | none =>
    rw [rdT_none hk ea]
    rw [ea] at ni
    show _ = Out.ok (D.str "text") []
    unfold f__law_thing_of g__law_thing_of
    generalize (k :: qs).map D.str = G at *
    generalize (qs.take 3).map numD = N at *
    simp [lc, i0, hk, ni, -eFrz_ap]
  | some ns =>
    rw [ea] at ni
    have em := numD_map ea
    have nn := num_nn ea
    have lns := allO_len ea
    rw [List.length_take] at lns
    rw [em] at lc ni
    have n2 : ((((qs.length + 1 : Nat) : Int)) == 2) = decide (qs.length = 1) := by
      rw [Bool.eq_iff_iff, beq_iff_eq, decide_eq_true_eq]; omega
    have n4 : ((((qs.length + 1 : Nat) : Int)) == 4) = decide (qs.length = 3) := by
      rw [Bool.eq_iff_iff, beq_iff_eq, decide_eq_true_eq]; omega
    simp only [Int.natCast_add, Int.natCast_one] at ln n2 n4
    unfold f__law_thing_of g__law_thing_of
    cases ew : (k == "word") with
    | true =>
      have ks : (k == "strike") = false := by rw [beq_iff_eq.mp ew]; decide
      by_cases h1 : qs.length = 1
      · obtain ⟨n, rfl⟩ := one (lns.trans (by omega))
        rw [decide_eq_true h1] at n2
        rw [List.take_of_length_le (by omega)] at ea
        have ep : prT k qs = .ok (.word n) := by unfold prT; rw [ew, if_pos rfl, ea]
        have er : rdT k qs = (if decide (n ≤ 59) = true then .ok (.word n) else .text) := by
          have ei : isTh (.word n) = decide (n ≤ 59) := by
            show (decide (0 ≤ n) && decide (n ≤ 59)) = _
            rw [decide_eq_true (nn n (by simp)), Bool.true_and]
          unfold rdT; rw [ep]
          show (if isTh (.word n) = true then _ else _) = _
          rw [ei]
        rw [er]
        have g1 := lt_le1 n 59
        simp only [Int.reduceAdd] at g1
        cases d1 : decide (n ≤ 59) with
        | true =>
          rw [d1] at g1
          rw [if_pos rfl]
          show _ = Out.ok (D.tup [.str "word", .int n]) []
          generalize (k :: qs).map D.str = G at *
          simp only [List.map_cons, List.map_nil] at lc ni
          simp [lc, i0, hk, ni, ew, ln, n2, g1, -eFrz_ap, -oLen_lst]
        | false =>
          rw [d1] at g1
          rw [if_neg Bool.false_ne_true]
          show _ = Out.ok (D.str "text") []
          generalize (k :: qs).map D.str = G at *
          simp only [List.map_cons, List.map_nil] at lc ni
          simp [lc, i0, hk, ni, ew, ks, ln, n2, g1, -eFrz_ap, -oLen_lst]
      · rw [decide_eq_false h1] at n2
        have er : rdT k qs = .text := by
          have ep : prT k qs = .text := by
            unfold prT; rw [ew, if_pos rfl]
            split
            · rename_i e
              exact absurd (allO_len e).symm h1
            · rfl
          unfold rdT; rw [ep]
        rw [er]
        show _ = Out.ok (D.str "text") []
        generalize (k :: qs).map D.str = G at *
        generalize ns.map D.int = N at *
        simp [lc, i0, hk, ni, ew, ks, ln, n2, -eFrz_ap, -oLen_lst]
    | false =>
      cases es : (k == "strike") with
      | true =>
        by_cases h1 : qs.length = 3
        · obtain ⟨p, s, n, rfl⟩ := three (lns.trans (by omega))
          rw [decide_eq_true h1] at n4
          rw [List.take_of_length_le (by omega)] at ea
          have ep : prT k qs = .ok (.strike p s n) := by unfold prT; rw [ew, es, if_neg Bool.false_ne_true, if_pos rfl, ea]
          have er : rdT k qs = (if (decide (p ≤ 2) && (decide (s ≤ 1) && decide (n ≤ 1000000))) = true then .ok (.strike p s n) else .text) := by
            have ei : isTh (.strike p s n) = (decide (p ≤ 2) && (decide (s ≤ 1) && decide (n ≤ 1000000))) := by
              show (((decide (0 ≤ p) && decide (p ≤ 2)) && (decide (0 ≤ s) && decide (s ≤ 1))) && (decide (0 ≤ n) && decide (n ≤ 1000000))) = _
              rw [decide_eq_true (nn p (by simp)), decide_eq_true (nn s (by simp)), decide_eq_true (nn n (by simp))]
              simp only [Bool.true_and, Bool.and_assoc]
            unfold rdT; rw [ep]
            show (if isTh (.strike p s n) = true then _ else _) = _
            rw [ei]
          rw [er]
          have g1 := lt_le1 p 2
          have g2 := lt_le1 s 1
          simp only [Int.reduceAdd] at g1 g2
          cases d1 : decide (p ≤ 2) with
          | false =>
            rw [d1] at g1
            show _ = Out.ok (D.str "text") []
            generalize (k :: qs).map D.str = G at *
            simp only [List.map_cons, List.map_nil] at lc ni
            simp [lc, i0, hk, ni, ew, es, ln, n4, g1, -eFrz_ap, -oLen_lst]
          | true =>
            rw [d1] at g1
            cases d2 : decide (s ≤ 1) with
            | false =>
              rw [d2] at g2
              show _ = Out.ok (D.str "text") []
              generalize (k :: qs).map D.str = G at *
              simp only [List.map_cons, List.map_nil] at lc ni
              simp [lc, i0, hk, ni, ew, es, ln, n4, g1, g2, -eFrz_ap, -oLen_lst]
            | true =>
              rw [d2] at g2
              cases d3 : decide (n ≤ 1000000) with
              | false =>
                show _ = Out.ok (D.str "text") []
                generalize (k :: qs).map D.str = G at *
                simp only [List.map_cons, List.map_nil] at lc ni
                simp [lc, i0, hk, ni, ew, es, ln, n4, g1, g2, d3, -eFrz_ap, -oLen_lst]
              | true =>
                show _ = Out.ok (D.tup [.str "strike", .int p, .int s, .int n]) []
                generalize (k :: qs).map D.str = G at *
                simp only [List.map_cons, List.map_nil] at lc ni
                simp [lc, i0, hk, ni, ew, es, ln, n4, g1, g2, d3, -eFrz_ap, -oLen_lst]
        · rw [decide_eq_false h1] at n4
          have er : rdT k qs = .text := by
            have ep : prT k qs = .text := by
              unfold prT; rw [ew, es, if_neg Bool.false_ne_true, if_pos rfl]
              split
              · rename_i e
                exact absurd (allO_len e).symm h1
              · rfl
            unfold rdT; rw [ep]
          rw [er]
          show _ = Out.ok (D.str "text") []
          generalize (k :: qs).map D.str = G at *
          generalize ns.map D.int = N at *
          simp [lc, i0, hk, ni, ew, es, ln, n4, -eFrz_ap, -oLen_lst]
      | false =>
        have er : rdT k qs = .text := by
          have ep : prT k qs = .text := by
            unfold prT; rw [ew, es, hk, if_neg Bool.false_ne_true, if_neg Bool.false_ne_true, if_neg Bool.false_ne_true]
          unfold rdT; rw [ep]
        rw [er]
        show _ = Out.ok (D.str "text") []
        generalize (k :: qs).map D.str = G at *
        generalize ns.map D.int = N at *
        simp [lc, i0, hk, ni, ew, es, -eFrz_ap]
theorem thing_of_ap {k : Str} {qs : List Str} (h : ∀ x ∈ k :: qs, Gd x) (hl : qs.length ≤ 900) : f__law_thing_of [.lst ((k :: qs).map D.str)] [] = .ok (rdT k qs).D [] := by
  cases hk : (k == "agree") with
  | true => exact thing_agree h hl hk
  | false => exact thing_other h hl hk

theorem asc_app {x y : Str} (h1 : Asc x) (h2 : Asc y) : Asc (x ++ y) := fun c hc => by
  rw [app_list] at hc
  rcases List.mem_append.mp hc with h | h
  · exact h1 c h
  · exact h2 c h
theorem asc_tx {i : Int} (h : 0 ≤ i) : Asc (txI i) := fun c hc => by have := tx_dig h c hc; omega
theorem jl_mem {g : List Nat} {c : Nat} : ∀ {ps : List (List Nat)}, c ∈ jl g ps → c ∈ g ∨ ∃ p ∈ ps, c ∈ p
  | [], h => by simp [jl] at h
  | p :: r, h => by
    simp only [jl] at h
    rcases List.mem_append.mp h with h | h
    · exact .inr ⟨p, List.mem_cons_self, h⟩
    · obtain ⟨q, hq, hc⟩ := List.mem_flatMap.mp h
      rcases List.mem_append.mp hc with hc | hc
      · exact .inl hc
      · exact .inr ⟨q, List.mem_cons_of_mem _ hq, hc⟩
theorem asc_join {z : Str} {ys : List Str} (hz : Asc z) (h : ∀ y ∈ ys, Asc y) : Asc (Txt.join z ys) := fun c hc => by
  rw [join_list'] at hc
  rcases jl_mem hc with hc | ⟨p, hp, hc⟩
  · exact hz c hc
  · obtain ⟨y, hy, rfl⟩ := List.mem_map.mp hp
    exact h y hy c hc
theorem asc_sp : Asc " " := by unfold Asc; decide
theorem asc_sl : Asc "/" := by unfold Asc; decide
theorem asc_st {n a b : Int} {ts : List Ti} (h : Sn n a b ts) : Asc (stT n a b ts) := by
  refine asc_join asc_sp fun y hy => ?_
  simp only [List.mem_cons] at hy
  rcases hy with rfl | rfl | rfl | hy
  · exact asc_tx h.n.1
  · exact asc_tx h.a.1
  · exact asc_tx h.b.1
  · obtain ⟨t, ht, rfl⟩ := List.mem_map.mp hy
    obtain ⟨h1, h2, h3, h4⟩ := Ti.nu (h.o t ht)
    refine asc_join asc_sl fun y hy => ?_
    simp only [List.mem_cons, List.not_mem_nil, or_false] at hy
    rcases hy with rfl | rfl | rfl | rfl
    · exact asc_tx h1.1
    · exact asc_tx h2.1
    · exact asc_tx h3.1
    · exact asc_tx h4.1
/-- the text ahead of its change -/
def Bg (x : Str) : Prop := Asc x ∧ 1 ≤ x.length ∧ x.length ≤ 430
theorem lt_word : ("word " : Str).length = 5 ∧ ("strike " : Str).length = 7 ∧ ("agree " : Str).length = 6 := by decide
theorem asc_word : Asc "word " ∧ Asc "strike " ∧ Asc "agree " := by unfold Asc; decide
theorem begun_ap {n a b : Int} {ts : List Ti} (h : Sn n a b ts) (z : Int) (σ : Sto) : ∃ x, Bg x ∧ f__law_begun [.int z, stD n a b ts] σ = .ok (.str x) σ := by
  have lt := fun σ => law_text_ap h σ
  have ls := st_len h
  have as := asc_st h
  have ls1 : 1 ≤ (stT n a b ts).length := by
    have hh := tx_ne h.n.1
    rw [← len_list, st_list]
    cases e : (txI n).cps.toList with
    | nil => exact absurd e hh
    | cons c r => simp
  have hp : 0 ≤ z / 5 % 3 ∧ z / 5 % 3 < 10 ^ 1 := by omega
  have hs : 0 ≤ z / 15 % 2 ∧ z / 15 % 2 < 10 ^ 1 := by omega
  have hm : 0 ≤ z / 30 % 1000001 ∧ z / 30 % 1000001 < 10 ^ 13 := by omega
  have hw : 0 ≤ z / 5 % 60 ∧ z / 5 % 60 < 10 ^ 13 := by omega
  have m2 := fun σ : Sto => oMod_ap (σ := σ) (z / 5) 3 (by decide)
  have m3 := fun σ : Sto => oMod_ap (σ := σ) (z / 15) 2 (by decide)
  have m4 := fun σ : Sto => oMod_ap (σ := σ) (z / 30) 1000001 (by decide)
  have m5 := fun σ : Sto => oMod_ap (σ := σ) (z / 5) 60 (by decide)
  generalize z / 5 % 3 = p at *
  generalize z / 15 % 2 = s at *
  generalize z / 30 % 1000001 = m at *
  generalize z / 5 % 60 = w at *
  have l1 := tx_len hp.1 0 hp.2
  have l2 := tx_len hs.1 0 hs.2
  have l3 := tx_len hm.1 12 hm.2
  have l4 := tx_len hw.1 12 hw.2
  have s1 := fun σ => oStr1_ap hp.1 (by omega) σ
  have s2 := fun σ => oStr1_ap hs.1 (by omega) σ
  have s3 := fun σ => oStr1_ap hm.1 (by omega) σ
  have s4 := fun σ => oStr1_ap hw.1 (by omega) σ
  have x1 := asc_tx hp.1
  have x2 := asc_tx hs.1
  have x3 := asc_tx hm.1
  have x4 := asc_tx hw.1
  have c0 : 0 ≤ z % 5 ∧ z % 5 < 5 := by omega
  have m1 := fun σ : Sto => oMod_ap (σ := σ) z 5 (by decide)
  generalize z % 5 = q at *
  unfold f__law_begun g__law_begun
  by_cases h0 : q = 0
  · have a1 := fun σ => oAdd_str (x := "word ") (y := txI w) (by rw [lt_word.1]; omega) σ
    refine ⟨"word " ++ txI w, ⟨asc_app asc_word.1 x4, by rw [app_len, lt_word.1]; omega, by rw [app_len, lt_word.1]; omega⟩, ?_⟩
    generalize ("word " : Str) ++ txI w = X at *
    have e0 : (q == 0) = true := by simpa using h0
    generalize stD n a b ts = S at *
    simp [m1, m2, m3, m5, s1, s2, s4, a1, e0]
  · have e0 : (q == 0) = false := by simpa using h0
    by_cases h1 : q = 1
    · have e1 : (q == 1) = true := by simpa using h1
      have a2 := fun σ => oAdd_str (x := "strike ") (y := txI p) (by rw [lt_word.2.1]; omega) σ
      have a3 := fun σ => oAdd_str (x := "strike " ++ txI p) (y := " ") (by simp only [app_len, lt_word.2.1, sp_len]; omega) σ
      have a4 := fun σ => oAdd_str (x := "strike " ++ txI p ++ " ") (y := txI s) (by simp only [app_len, lt_word.2.1, sp_len]; omega) σ
      have a5 := fun σ => oAdd_str (x := "strike " ++ txI p ++ " " ++ txI s) (y := " ") (by simp only [app_len, lt_word.2.1, sp_len]; omega) σ
      have a6 := fun σ => oAdd_str (x := "strike " ++ txI p ++ " " ++ txI s ++ " ") (y := txI m) (by simp only [app_len, lt_word.2.1, sp_len]; omega) σ
      refine ⟨"strike " ++ txI p ++ " " ++ txI s ++ " " ++ txI m, ⟨asc_app (asc_app (asc_app (asc_app (asc_app asc_word.2.1 x1) asc_sp) x2) asc_sp) x3, by simp only [app_len, lt_word.2.1, sp_len]; omega, by simp only [app_len, lt_word.2.1, sp_len]; omega⟩, ?_⟩
      generalize ("strike " : Str) ++ txI p = X1 at *
      generalize X1 ++ " " = X2 at *
      generalize X2 ++ txI s = X3 at *
      generalize X3 ++ " " = X4 at *
      generalize X4 ++ txI m = X5 at *
      generalize stD n a b ts = S at *
      simp [m1, m2, m3, m4, s1, s2, s3, a2, a3, a4, a5, a6, e0, e1]
    · have e1 : (q == 1) = false := by simpa using h1
      by_cases h2 : q = 2
      · have e2 : (q == 2) = true := by simpa using h2
        have b2 := fun σ => oAdd_str (x := "agree ") (y := txI p) (by rw [lt_word.2.2]; omega) σ
        have b3 := fun σ => oAdd_str (x := "agree " ++ txI p) (y := " ") (by simp only [app_len, lt_word.2.2, sp_len]; omega) σ
        have b4 := fun σ => oAdd_str (x := "agree " ++ txI p ++ " ") (y := txI s) (by simp only [app_len, lt_word.2.2, sp_len]; omega) σ
        have b5 := fun σ => oAdd_str (x := "agree " ++ txI p ++ " " ++ txI s) (y := " ") (by simp only [app_len, lt_word.2.2, sp_len]; omega) σ
        have b6 := fun σ => oAdd_str (x := "agree " ++ txI p ++ " " ++ txI s ++ " ") (y := stT n a b ts) (by simp only [app_len, lt_word.2.2, sp_len]; omega) σ
        refine ⟨"agree " ++ txI p ++ " " ++ txI s ++ " " ++ stT n a b ts, ⟨asc_app (asc_app (asc_app (asc_app (asc_app asc_word.2.2 x1) asc_sp) x2) asc_sp) as, by simp only [app_len, lt_word.2.2, sp_len]; omega, by simp only [app_len, lt_word.2.2, sp_len]; omega⟩, ?_⟩
        generalize ("agree " : Str) ++ txI p = X1 at *
        generalize X1 ++ " " = X2 at *
        generalize X2 ++ txI s = X3 at *
        generalize X3 ++ " " = X4 at *
        generalize X4 ++ stT n a b ts = X5 at *
        generalize stT n a b ts = XT at *
        generalize stD n a b ts = S at *
        simp [m1, m2, m3, s1, s2, b2, b3, b4, b5, b6, lt, e0, e1, e2]
      · have e2 : (q == 2) = false := by simpa using h2
        refine ⟨stT n a b ts, ⟨as, ls1, by omega⟩, ?_⟩
        generalize stT n a b ts = XT at *
        generalize stD n a b ts = S at *
        simp [m1, m2, m3, s1, s2, lt, e0, e1, e2]

theorem slice_mem {z : Str} {lo hi : Option Int} {c : Nat} (h : c ∈ (Txt.slice z lo hi).cps.toList) : c ∈ z.cps.toList := by
  unfold Txt.slice at h
  split at h
  · exact h
  · simp only [List.mem_filterMap] at h
    obtain ⟨i, _, hi⟩ := h
    rw [← Array.getElem?_toList] at hi
    exact List.mem_of_getElem? hi
theorem slice_gd {z : Str} {lo hi : Option Int} (h : Asc z) : Asc (Txt.slice z lo hi) ∧ (Txt.slice z lo hi).length ≤ z.length := ⟨fun c hc => h c (slice_mem hc), Txt.slice_le z lo hi⟩
theorem rep1_gd {x : Str} (h : Asc x) : Asc (rep1 x " " "  ") ∧ (rep1 x " " "  ").length ≤ x.length + 2 := by
  unfold rep1
  split
  · exact ⟨h, by omega⟩
  · have e := StrLaws.glued_between_self x " " 1
    have lp := length_partsBetween x (Builtin.Str.occurrences x " " 0 x.length 1) (" " : Str).length
    have lo := StrLaws.occ_length_le x " " 0 x.length 1
    generalize Builtin.Str.partsBetween x (Builtin.Str.occurrences x " " 0 x.length 1) (" " : Str).length = ps at *
    have e2 : (Txt.join " " ps).cps.toList = x.cps.toList := by show (Builtin.Str.glued " " ps).cps.toList = _; rw [e]
    rw [join_list'] at e2
    refine ⟨?_, ?_⟩
    · refine asc_join (z := "  ") (ys := ps) (by unfold Asc; decide) fun y hy c hc => ?_
      have := (jl_sub (" " : Str).cps.toList (ps.map fun y => y.cps.toList) y.cps.toList (List.mem_map.mpr ⟨y, hy, rfl⟩)).1 c hc
      rw [e2] at this
      exact h c this
    · have l1 := size_glued " " ps
      rw [e, sp_len] at l1
      rw [size_glued, show ("  " : Str).length = 2 by decide]
      omega
theorem oIxA_l (xs : List D) (i : D) (σ : Sto) : oIxA (.lst xs) i σ = oIx (.lst xs) i σ := nr rfl
theorem oLenA_l (xs : List D) (σ : Sto) : oLenA [.lst xs] σ = oLen [.lst xs] σ := nr rfl
theorem chr_ap {k : Int} (h0 : 0 ≤ k) (h1 : k < 17) : ∃ y : Str, (Asc y ∧ y.length = 1) ∧ ∀ σ, oIxA (.str "0123456789/ -+.x\n") (.int k) σ = .ok (.str y) σ := by
  obtain ⟨n, rfl⟩ := Int.eq_ofNat_of_zero_le h0
  have el : ("0123456789/ -+.x\n" : Str).cps.toList = [48, 49, 50, 51, 52, 53, 54, 55, 56, 57, 47, 32, 45, 43, 46, 120, 10] := by decide
  have hn : n < ([48, 49, 50, 51, 52, 53, 54, 55, 56, 57, 47, 32, 45, 43, 46, 120, 10] : List Nat).length := by simp; omega
  have ha : ∀ c ∈ ([48, 49, 50, 51, 52, 53, 54, 55, 56, 57, 47, 32, 45, 43, 46, 120, 10] : List Nat), c < 128 := by decide
  generalize hL : ([48, 49, 50, 51, 52, 53, 54, 55, 56, 57, 47, 32, 45, 43, 46, 120, 10] : List Nat) = L at *
  refine ⟨⟨#[L[n]]⟩, ⟨fun c hc => ?_, rfl⟩, fun σ => ?_⟩
  · have hc : c ∈ [L[n]] := hc
    rw [List.mem_singleton.mp hc]
    exact ha _ (List.getElem_mem hn)
  · unfold oIxA; dsimp only
    rw [if_pos (by decide), el, atI_nat (List.getElem?_eq_getElem hn)]
def Res (X : D) : Prop := (∃ y, X = .str y ∧ Gd y) ∨ (L4.cl X = true ∧ ∀ σ, oIsB .str X σ = .ok (.bl false) σ)
def Pc (V : D) : Prop := ∃ y : Str, V = .str y ∧ Asc y ∧ y.length ≤ 31
theorem pc_of {y : Str} (h : Asc y) (hl : y.length ≤ 31) : Pc (.str y) := ⟨y, rfl, h, hl⟩
/-- words taken out of a text, with another one between -/
theorem jo_gd {x : Str} (h : Bg x) (es : List Str) (he : ∀ y ∈ es, Asc y ∧ y.length ≤ 31) (hel : es.length ≤ 1) (i j : Nat) (hij : i ≤ j) :
    joOk " " ((Txt.split x " ").take i ++ es ++ (Txt.split x " ").drop j) = true ∧ Gd (Txt.join " " ((Txt.split x " ").take i ++ es ++ (Txt.split x " ").drop j)) := by
  have hg : Gd x := ⟨h.1, by have := h.2.2; omega⟩
  have hw := split_gd (y := " ") hg
  have ls := size_glued " " (Txt.split x " ")
  have ej : Builtin.Str.glued " " (Txt.split x " ") = x := join_spl x " "
  rw [ej, sp_len] at ls
  have lc : (Txt.split x " ").length ≤ x.length + 1 := by
    have e2 : (Txt.join ⟨#[32]⟩ (Txt.split x ⟨#[32]⟩)).cps.toList = x.cps.toList := by rw [join_spl]
    rw [join_list'] at e2
    have := jl_len1 (c := 32) ((Txt.split x ⟨#[32]⟩).map fun y => y.cps.toList)
    rw [show jl [32] ((Txt.split x ⟨#[32]⟩).map fun y => y.cps.toList) = x.cps.toList from e2, len_list, List.length_map] at this
    rw [sp_ch]; exact this
  generalize Txt.split x " " = ws at *
  have s1 : ((ws.take i ++ es ++ ws.drop j).map (·.length)).sum ≤ (ws.map (·.length)).sum + 31 := by
    have e1 : (ws.map (·.length)).sum = ((ws.take i).map (·.length)).sum + ((ws.drop i).map (·.length)).sum := by
      rw [← List.sum_append, ← List.map_append, List.take_append_drop]
    have e2 : ((ws.drop j).map (·.length)).sum ≤ ((ws.drop i).map (·.length)).sum := by
      have : ws.drop j = (ws.drop i).drop (j - i) := by rw [List.drop_drop]; congr 1; omega
      rw [this]
      generalize ws.drop i = l
      have e3 : (l.map (·.length)).sum = ((l.take (j - i)).map (·.length)).sum + ((l.drop (j - i)).map (·.length)).sum := by
        rw [← List.sum_append, ← List.map_append, List.take_append_drop]
      omega
    have e4 : (es.map (·.length)).sum ≤ 31 := by
      match es, he, hel with
      | [], _, _ => simp
      | [y], he, _ => simp; exact (he y List.mem_cons_self).2
    rw [List.map_append, List.map_append, List.sum_append, List.sum_append]
    omega
  have s2 : (ws.take i ++ es ++ ws.drop j).length ≤ ws.length + 1 := by
    rw [List.length_append, List.length_append, List.length_take, List.length_drop]; omega
  have hl := h.2.2
  refine ⟨?_, ?_, ?_⟩
  · simp only [joOk, hide_eq, Bool.and_eq_true, decide_eq_true_eq]
    exact ⟨by decide, by omega⟩
  · refine asc_join asc_sp fun y hy => ?_
    rcases List.mem_append.mp hy with hy | hy
    · rcases List.mem_append.mp hy with hy | hy
      · exact (hw y (List.mem_of_mem_take hy)).1
      · exact (he y hy).1
    · exact (hw y (List.mem_of_mem_drop hy)).1
  · show (Builtin.Str.glued " " _).length ≤ 900
    rw [size_glued, sp_len]
    omega
theorem cut_toI (ps : List Str) {k : Int} (h : 0 ≤ k) : cutD (ps.map D.str) none (some k) = (ps.take k.toNat).map D.str := by
  obtain ⟨n, rfl⟩ := Int.eq_ofNat_of_zero_le h
  rw [cut_to, List.map_take]; rfl
theorem cut_fromI (ps : List Str) {k : Int} (h : 0 ≤ k) : cutD (ps.map D.str) (some k) none = (ps.drop k.toNat).map D.str := by
  obtain ⟨n, rfl⟩ := Int.eq_ofNat_of_zero_le h
  rw [cut_from, List.map_drop]; rfl
theorem oAdd_strs (xs ys : List Str) (h : xs.length + ys.length ≤ 1000) (σ : Sto) : oAdd (.lst (xs.map D.str)) (.lst (ys.map D.str)) σ = .ok (.lst ((xs ++ ys).map D.str)) σ := by
  rw [oAdd_lst (by simp [cap]; omega), List.map_append]

theorem mulS_ap (n : Int) (h0 : 0 ≤ n) (h1 : n ≤ 1000) (σ : Sto) : oMulS (.str "1") (.int n) σ = .ok (.str (Txt.mul "1" n)) σ := by
  unfold oMulS; dsimp only; rw [if_pos ⟨by decide, h1, h0⟩]
theorem mul_pc : Pc (.str (Txt.mul "1" 30)) ∧ Pc (.str (Txt.mul "1" 31)) := by
  have e1 : Txt.mul "1" 30 = ("111111111111111111111111111111" : Str) := by decide
  have e2 : Txt.mul "1" 31 = ("1111111111111111111111111111111" : Str) := by decide
  rw [e1, e2]
  exact ⟨pc_of (by unfold Asc; decide) (by decide), pc_of (by unfold Asc; decide) (by decide)⟩
theorem changed_ap {x : Str} (h : Bg x) (z : Int) (σ : Sto) : ∃ X, Res X ∧ f__law_changed [.str x, .int z] σ = .ok X σ := by
  have hg : Gd x := ⟨h.1, by have := h.2.2; omega⟩
  have hA := h.1
  have hl1 := h.2.1
  have hl2 := h.2.2
  have sp := fun σ => oSplit_ap (z := x) (y := " ") (spOk_of rfl hg.le) σ
  have jg := fun es he hel i j hij => jo_gd h es he hel i j hij
  have lw : (Txt.split x " ").length ≤ 901 := by rw [sp_ch]; exact split_cnt hg.2
  have lw1 : 1 ≤ (Txt.split x " ").length := by obtain ⟨k, qs, e⟩ := split_cons x; rw [e]; simp
  generalize Txt.split x " " = ws at *
  have ln : ∀ σ, oLenA [.lst (ws.map D.str)] σ = .ok (.int ws.length) σ := fun σ => by rw [oLenA_l]; simp
  have lx := fun σ => lenA_ap (x := x) hg.le σ
  have m1 := fun σ : Sto => oMod_ap (σ := σ) z 10 (by decide)
  have hw : 0 ≤ z % 10 ∧ z % 10 < 10 := by omega
  generalize z % 10 = w at *
  generalize hc : z / 10 = c at *
  have m2 := fun σ : Sto => oMod_ap (σ := σ) c ws.length (by omega)
  have hat : 0 ≤ c % (ws.length : Int) ∧ c % (ws.length : Int) < ws.length := ⟨Int.emod_nonneg _ (by omega), Int.emod_lt_of_pos _ (by omega)⟩
  generalize c % (ws.length : Int) = at_ at *
  have t0 := cut_toI ws hat.1
  have f0 := cut_fromI ws hat.1
  have f1 := cut_fromI ws (k := at_ + 1) (by omega)
  have ti : at_.toNat ≤ at_.toNat := Nat.le_refl _
  have tj : at_.toNat ≤ (at_ + 1).toNat := by omega
  have lt1 : (ws.take at_.toNat).length ≤ 901 := by rw [List.length_take]; omega
  have ld0 : (ws.drop at_.toNat).length + (ws.take at_.toNat).length = ws.length := by rw [List.length_drop, List.length_take]; omega
  have ld1 : (ws.drop (at_ + 1).toNat).length + (ws.take at_.toNat).length + 1 = ws.length := by rw [List.length_drop, List.length_take]; omega
  have cases10 : w = 2 ∨ w = 3 ∨ w = 4 ∨ w = 5 ∨ w = 6 ∨ w = 7 ∨ w = 8 ∨ (w == 2) = false ∧ (w == 3) = false ∧ (w == 4) = false ∧ (w == 5) = false ∧ (w == 6) = false ∧ (w == 7) = false ∧ (w == 8) = false := by
    simp only [beq_eq_false_iff_ne, ne_eq]; omega
  unfold f__law_changed g__law_changed
  rcases cases10 with rfl | rfl | rfl | rfl | rfl | rfl | rfl | ⟨n2, n3, n4, n5, n6, n7, n8⟩
  · -- 2
    have m3 := fun σ : Sto => oMod_ap (σ := σ) c ((x.length : Int) + 1) (by omega)
    generalize c % ((x.length : Int) + 1) = sp_ at *
    obtain ⟨y, ⟨hy1, hy2⟩, ey⟩ := chr_ap (k := c / 50 % 17) (by omega) (by omega)
    have m4 := fun σ : Sto => oMod_ap (σ := σ) (c / 50) 17 (by decide)
    generalize c / 50 % 17 = kk at *
    have c1 := fun σ => cutT_ap (σ := σ) (z := x) (lo := none) (hi := some sp_) (by omega)
    have c2 := fun σ => cutT_ap (σ := σ) (z := x) (lo := some sp_) (hi := none) (by omega)
    obtain ⟨g1, g2⟩ := slice_gd (z := x) (lo := none) (hi := some sp_) hA
    obtain ⟨g3, g4⟩ := slice_gd (z := x) (lo := some sp_) (hi := none) hA
    generalize Txt.slice x none (some sp_) = S1 at *
    generalize Txt.slice x (some sp_) none = S2 at *
    have a1 := fun σ => oAdd_str (x := S1) (y := y) (by omega) σ
    have a2 := fun σ => oAdd_str (x := S1 ++ y) (y := S2) (by rw [app_len]; omega) σ
    refine ⟨.str (S1 ++ y ++ S2), .inl ⟨_, rfl, asc_app (asc_app g1 hy1) g3, by rw [app_len, app_len]; omega⟩, ?_⟩
    generalize S1 ++ y = S3 at *
    generalize S3 ++ S2 = S4 at *
    generalize ws.map D.str = G at *
    simp [m1, hc, sp, ln, m2, lx, m3, c1, c2, m4, ey, a1, a2]
  · -- 3
    have m3 := fun σ : Sto => oMod_ap (σ := σ) c (x.length : Int) (by omega)
    generalize c % (x.length : Int) = sp_ at *
    have c1 := fun σ => cutT_ap (σ := σ) (z := x) (lo := none) (hi := some sp_) (by omega)
    have c2 := fun σ => cutT_ap (σ := σ) (z := x) (lo := some (sp_ + 1)) (hi := none) (by omega)
    obtain ⟨g1, g2⟩ := slice_gd (z := x) (lo := none) (hi := some sp_) hA
    obtain ⟨g3, g4⟩ := slice_gd (z := x) (lo := some (sp_ + 1)) (hi := none) hA
    generalize Txt.slice x none (some sp_) = S1 at *
    generalize Txt.slice x (some (sp_ + 1)) none = S2 at *
    have a1 := fun σ => oAdd_str (x := S1) (y := S2) (by omega) σ
    refine ⟨.str (S1 ++ S2), .inl ⟨_, rfl, asc_app g1 g3, by rw [app_len]; omega⟩, ?_⟩
    generalize S1 ++ S2 = S4 at *
    generalize ws.map D.str = G at *
    simp [m1, hc, sp, ln, m2, lx, m3, c1, c2, a1]
  · -- 4
    obtain ⟨r1, r2⟩ := rep1_gd hA
    have ro : rpOk x " " "  " = true := by
      simp only [rpOk, hide_eq, Bool.and_eq_true, Bool.not_eq_true', decide_eq_true_eq]
      refine ⟨by decide, ?_, by omega⟩
      rw [show ("  " : Str).length = 2 by decide]; omega
    have rp := fun σ => rpK_ap (σ := σ) ro
    obtain ⟨V, ⟨y, rfl, hy1, hy2⟩, ev⟩ := ixL (P := Pc) (xs := [.str " ", .str ""]) (k := c % 2) (by omega) (by simp; omega) (by
      intro v hv
      simp only [List.mem_cons, List.not_mem_nil, or_false] at hv
      rcases hv with rfl | rfl
      · exact pc_of asc_sp (by decide)
      · exact pc_of (by unfold Asc; decide) (by decide))
    have m3 := fun σ : Sto => oMod_ap (σ := σ) c 2 (by decide)
    generalize c % 2 = k2 at *
    generalize rep1 x " " "  " = R at *
    have a1 := fun σ => oAdd_str (x := R) (y := y) (by omega) σ
    refine ⟨.str (R ++ y), .inl ⟨_, rfl, asc_app r1 hy1, by rw [app_len]; omega⟩, ?_⟩
    generalize R ++ y = S4 at *
    generalize ws.map D.str = G at *
    simp [m1, hc, sp, ln, m2, rp, m3, oIxA_l, ev, a1]
  · -- 5
    obtain ⟨j1, j2⟩ := jg [] (by simp) (by simp) at_.toNat (at_ + 1).toNat tj
    rw [List.append_nil] at j1 j2
    have ad := fun σ => oAdd_strs (ws.take at_.toNat) (ws.drop (at_ + 1).toNat) (by omega) σ
    have jo := fun σ => oJoin_ap (z := " ") j1 σ
    refine ⟨.str (Txt.join " " (ws.take at_.toNat ++ ws.drop (at_ + 1).toNat)), .inl ⟨_, rfl, j2⟩, ?_⟩
    generalize (ws.take at_.toNat ++ ws.drop (at_ + 1).toNat).map D.str = G3 at *
    generalize Txt.join " " (ws.take at_.toNat ++ ws.drop (at_ + 1).toNat) = J at *
    generalize (ws.take at_.toNat).map D.str = G1 at *
    generalize (ws.drop (at_ + 1).toNat).map D.str = G2 at *
    generalize ws.map D.str = G at *
    simp [m1, hc, sp, ln, m2, t0, f1, ad, jo]
  · -- 6
    obtain ⟨V, ⟨y, rfl, hy1, hy2⟩, ev⟩ := ixL (P := Pc) (xs := [.str "7", .str "0/3/5/9", .str "word", .str "", .str "1/2/3", .str "0/0/5/9", .str "2/3/5/9"]) (k := c / 50 % 7) (by omega) (by simp; omega) (by
      intro v hv
      simp only [List.mem_cons, List.not_mem_nil, or_false] at hv
      rcases hv with rfl | rfl | rfl | rfl | rfl | rfl | rfl <;> exact pc_of (by unfold Asc; decide) (by decide))
    have m3 := fun σ : Sto => oMod_ap (σ := σ) (c / 50) 7 (by decide)
    generalize c / 50 % 7 = k2 at *
    obtain ⟨j1, j2⟩ := jg [y] (fun q hq => by rw [List.mem_singleton.mp hq]; exact ⟨hy1, hy2⟩) (by simp) at_.toNat at_.toNat ti
    have a1 := fun σ => oAdd_strs (ws.take at_.toNat) [y] (by simp only [List.length_cons, List.length_nil]; omega) σ
    have a2 := fun σ => oAdd_strs (ws.take at_.toNat ++ [y]) (ws.drop at_.toNat) (by simp only [List.length_append, List.length_cons, List.length_nil]; omega) σ
    have jo := fun σ => oJoin_ap (z := " ") j1 σ
    rw [List.map_cons, List.map_nil] at a1
    refine ⟨.str (Txt.join " " (ws.take at_.toNat ++ [y] ++ ws.drop at_.toNat)), .inl ⟨_, rfl, j2⟩, ?_⟩
    generalize (ws.take at_.toNat ++ [y] ++ ws.drop at_.toNat).map D.str = G3 at *
    generalize Txt.join " " (ws.take at_.toNat ++ [y] ++ ws.drop at_.toNat) = J at *
    generalize (ws.take at_.toNat ++ [y]).map D.str = G4 at *
    generalize (ws.take at_.toNat).map D.str = G1 at *
    generalize (ws.drop at_.toNat).map D.str = G2 at *
    generalize ws.map D.str = G at *
    simp [m1, hc, sp, ln, m2, m3, oIxA_l, ev, t0, f0, a1, a2, jo]
  · -- 7
    have mu1 := fun σ => mulS_ap 30 (by decide) (by decide) σ
    have mu2 := fun σ => mulS_ap 31 (by decide) (by decide) σ
    obtain ⟨q1, q2⟩ := mul_pc
    generalize Txt.mul "1" 30 = T1 at *
    generalize Txt.mul "1" 31 = T2 at *
    obtain ⟨V, ⟨y, rfl, hy1, hy2⟩, ev⟩ := ixL (P := Pc) (xs := [.str "1000001", .str "2000000000001", .str "999999999999999", .str T1, .str T2, .str "07", .str "60", .str "3", .str "0/1/60/5"]) (k := c / 50 % 9) (by omega) (by simp; omega) (by
      intro v hv
      simp only [List.mem_cons, List.not_mem_nil, or_false] at hv
      rcases hv with rfl | rfl | rfl | rfl | rfl | rfl | rfl | rfl | rfl <;> first | exact q1 | exact q2 | exact pc_of (by unfold Asc; decide) (by decide))
    have m3 := fun σ : Sto => oMod_ap (σ := σ) (c / 50) 9 (by decide)
    generalize c / 50 % 9 = k2 at *
    obtain ⟨j1, j2⟩ := jg [y] (fun q hq => by rw [List.mem_singleton.mp hq]; exact ⟨hy1, hy2⟩) (by simp) at_.toNat (at_ + 1).toNat tj
    have a1 := fun σ => oAdd_strs (ws.take at_.toNat) [y] (by simp only [List.length_cons, List.length_nil]; omega) σ
    have a2 := fun σ => oAdd_strs (ws.take at_.toNat ++ [y]) (ws.drop (at_ + 1).toNat) (by simp only [List.length_append, List.length_cons, List.length_nil]; omega) σ
    have jo := fun σ => oJoin_ap (z := " ") j1 σ
    rw [List.map_cons, List.map_nil] at a1
    refine ⟨.str (Txt.join " " (ws.take at_.toNat ++ [y] ++ ws.drop (at_ + 1).toNat)), .inl ⟨_, rfl, j2⟩, ?_⟩
    generalize (ws.take at_.toNat ++ [y] ++ ws.drop (at_ + 1).toNat).map D.str = G3 at *
    generalize Txt.join " " (ws.take at_.toNat ++ [y] ++ ws.drop (at_ + 1).toNat) = J at *
    generalize (ws.take at_.toNat ++ [y]).map D.str = G4 at *
    generalize (ws.take at_.toNat).map D.str = G1 at *
    generalize (ws.drop (at_ + 1).toNat).map D.str = G2 at *
    generalize ws.map D.str = G at *
    simp [m1, hc, sp, ln, m2, mu1, mu2, m3, oIxA_l, ev, t0, f1, a1, a2, jo]
  · -- 8
    obtain ⟨V, ⟨hv1, hv2⟩, ev⟩ := ixL (P := fun X => L4.cl X = true ∧ ∀ σ, oIsB .str X σ = .ok (.bl false) σ) (xs := [.non, .int 7, .lst [.str x], .tup [.str "word", .int 7]]) (k := c % 4) (by omega) (by simp; omega) (by
      intro v hv
      simp only [List.mem_cons, List.not_mem_nil, or_false] at hv
      rcases hv with rfl | rfl | rfl | rfl <;> exact ⟨by simp, fun σ => nr rfl⟩)
    have m3 := fun σ : Sto => oMod_ap (σ := σ) c 4 (by decide)
    generalize c % 4 = k2 at *
    refine ⟨V, .inr ⟨hv1, hv2⟩, ?_⟩
    generalize ws.map D.str = G at *
    simp [m1, hc, sp, ln, m2, m3, oIxA_l, ev, hv1]
  · refine ⟨.str x, .inl ⟨_, rfl, hg⟩, ?_⟩
    generalize ws.map D.str = G at *
    simp [m1, hc, sp, ln, m2, n2, n3, n4, n5, n6, n7, n8]

theorem ib2 (σ : Sto) : oIsX (htab [(0, true), (1, true), (2, true)]) (.exn 2) σ = .ok (.bl true) σ := oIsX_ap rfl
theorem ib1 (σ : Sto) : oIsX (htab [(0, true), (1, true), (2, true)]) (.exn 1) σ = .ok (.bl true) σ := oIsX_ap rfl
theorem is2 (σ : Sto) : oIsX (htab [(0, false), (1, true), (2, false)]) (.exn 2) σ = .ok (.bl false) σ := oIsX_ap rfl
theorem it1 (σ : Sto) : oIsX (htab [(0, false), (1, false), (2, true)]) (.exn 1) σ = .ok (.bl false) σ := oIsX_ap rfl
inductive Oc where
  | text | stand | ok (d : D)
def Oc.out (σ : Sto) : Oc → Out D
  | .text => .ex ⟨2⟩ σ
  | .stand => .ex ⟨1⟩ σ
  | .ok d => .ok d σ
def Oc.D : Oc → L4.D
  | .text => .str "text"
  | .stand => .str "stand"
  | .ok d => d
theorem told_s {X : D} {o : Oc} (hc : L4.cl o.D = true) (r : ∀ σ, f_read_stand [X] σ = o.out σ) (σ : Sto) : f__law_told [.bl false, X] σ = .ok o.D σ := by
  unfold f__law_told g__law_told
  cases o with
  | text =>
    have r : ∀ σ, f_read_stand [X] σ = .ex ⟨2⟩ σ := r
    show _ = Out.ok (D.str "text") σ
    simp [r]
    rw [handle_t rfl]
    simp [ib2, is2]
  | stand =>
    have r : ∀ σ, f_read_stand [X] σ = .ex ⟨1⟩ σ := r
    show _ = Out.ok (D.str "stand") σ
    simp [r]
    rw [handle_f rfl, handle_t rfl]
    simp [ib1, it1]
  | ok d =>
    have r : ∀ σ, f_read_stand [X] σ = .ok d σ := r
    have hc : L4.cl d = true := hc
    show _ = Out.ok d σ
    simp [r, hc]
theorem told_t {X : D} {o : Oc} (hc : L4.cl o.D = true) (r : ∀ σ, f_read_thing [X] σ = o.out σ) (σ : Sto) : f__law_told [.bl true, X] σ = .ok o.D σ := by
  unfold f__law_told g__law_told
  cases o with
  | text =>
    have r : ∀ σ, f_read_thing [X] σ = .ex ⟨2⟩ σ := r
    show _ = Out.ok (D.str "text") σ
    simp [r]
    rw [handle_t rfl]
    simp [ib2, is2]
  | stand =>
    have r : ∀ σ, f_read_thing [X] σ = .ex ⟨1⟩ σ := r
    show _ = Out.ok (D.str "stand") σ
    simp [r]
    rw [handle_f rfl, handle_t rfl]
    simp [ib1, it1]
  | ok d =>
    have r : ∀ σ, f_read_thing [X] σ = .ok d σ := r
    have hc : L4.cl d = true := hc
    show _ = Out.ok d σ
    simp [r, hc]
def RS.oc : RS → Oc
  | .text => .text
  | .stand => .stand
  | .ok n a b ts => .ok (stD n a b ts)
def RT.oc : RT → Oc
  | .text => .text
  | .stand => .stand
  | .ok t => .ok (thD t)
theorem RS.oc_out (r : RS) (σ : Sto) : r.out σ = r.oc.out σ := by cases r <;> rfl
theorem RS.oc_D (r : RS) : r.oc.D = r.D := by cases r <;> rfl
theorem RT.oc_out (r : RT) (σ : Sto) : r.out σ = r.oc.out σ := by cases r <;> rfl
theorem RT.oc_D (r : RT) : r.oc.D = r.D := by cases r <;> rfl
theorem bad_stand {X : D} (h : ∀ σ, oIsB .str X σ = .ok (.bl false) σ) (σ : Sto) : f_read_stand [X] σ = .ex ⟨2⟩ σ := by
  have sb := fun y σ => split_at_bad (y := y) h σ
  unfold f_read_stand g_read_stand
  simp [sb]
theorem bad_thing {X : D} (h : ∀ σ, oIsB .str X σ = .ok (.bl false) σ) (σ : Sto) : f_read_thing [X] σ = .ex ⟨2⟩ σ := by
  have sb := fun y σ => split_at_bad (y := y) h σ
  unfold f_read_thing g_read_thing
  simp [sb]
theorem refused_ap {V : D} (h : ∀ σ, f_read_number [V] σ = .ex ⟨2⟩ σ) (σ : Sto) : f__law_refused [V] σ = .ok (.bl true) σ := by
  unfold f__law_refused g__law_refused
  simp [h]
  rw [handle_t rfl]
  simp
theorem pl_str (s : Str) : pl 8 (.str s) = true := by simp [pl]
theorem pl_st (k : Nat) (n a b : Int) (ts : List Ti) : pl (k + 3) (stD n a b ts) = true := by simp [stD, pl, Ti.D]
theorem pl_thd (t : Th) : pl 8 (thD t) = true := by
  cases t with
  | strike p s n => simp [thD, pl]
  | agree p s n a b ts => simp only [thD]; simp [stD, pl, Ti.D]
  | word n => simp [thD, pl]
  | none_ => simp [thD, pl]
theorem pl_rs (r : RS) : pl 8 r.D = true := by
  cases r with
  | ok n a b ts => exact pl_st 5 n a b ts
  | _ => exact pl_str _
theorem pl_rt (r : RT) : pl 8 r.D = true := by
  cases r with
  | ok t => exact pl_thd t
  | _ => exact pl_str _
theorem num_bad {x : Str} (hA : Asc x) (hl : x.length ≤ 1000) (hb : numB x = false) (σ : Sto) : f_read_number [.str x] σ = .ex ⟨2⟩ σ := by
  rw [read_number_ap hA hl, numO_none hb]
theorem digs_ge : ∀ (k m : Nat), 10 ^ k ≤ m → k + 1 ≤ (Nat.toDigits 10 m).length
  | 0, m, h => by
    by_cases h1 : m < 10
    · rw [Nat.toDigits_of_lt_base h1]; simp
    · have hm : m % 10 < 10 := Nat.mod_lt m (by decide)
      have t : Nat.toDigits 10 (m / 10) ++ Nat.toDigits 10 (m % 10) = Nat.toDigits 10 (10 * (m / 10) + m % 10) := Nat.toDigits_append_toDigits (by decide) (by omega) hm
      rw [Nat.div_add_mod] at t
      rw [← t, List.length_append, Nat.toDigits_of_lt_base hm]; simp
  | k + 1, m, h => by
    have hm : m % 10 < 10 := Nat.mod_lt m (by decide)
    have hk : 10 ^ k ≤ m / 10 := (Nat.le_div_iff_mul_le (by decide)).mpr (by rw [← Nat.pow_succ]; exact h)
    have h1 : 0 < m / 10 := Nat.lt_of_lt_of_le (Nat.pow_pos (by decide)) hk
    have t : Nat.toDigits 10 (m / 10) ++ Nat.toDigits 10 (m % 10) = Nat.toDigits 10 (10 * (m / 10) + m % 10) := Nat.toDigits_append_toDigits (by decide) h1 hm
    rw [Nat.div_add_mod] at t
    rw [← t, List.length_append, Nat.toDigits_of_lt_base hm]
    have := digs_ge k (m / 10) hk
    simp; omega
theorem num_far {i : Int} (h0 : (10 : Int) ^ 30 ≤ i) (h1 : i < 10 ^ 40) : numB (txI i) = false := by
  have h : (31 : Nat) ≤ (txI i).length := by
    obtain ⟨m, rfl⟩ := Int.eq_ofNat_of_zero_le (show (0 : Int) ≤ i by omega)
    have e := congrArg List.length (tx_list m)
    rw [len_list, List.length_map] at e
    rw [e]
    exact digs_ge 30 m (by omega)
  unfold numB
  rw [decide_eq_false (show ¬ (txI i).length ≤ 30 by omega)]
  simp
theorem p30 (σ : Sto) : oPow (.int 10) (.int 30) σ = .ok (.int 1000000000000000000000000000000) σ := oPow_ap (by simp [cPow])
theorem odd_ap {i k : Int} (h0 : (10 : Int) ^ 30 ≤ i) (h1 : i < 10 ^ 40) (hk : 0 ≤ k ∧ k < 10) : ∃ V, (∀ σ, f__law_refused [V] σ = .ok (.bl true) σ) ∧ ∀ σ, oIx (.lst [.str "", .str "01", .str "-1", .str "1 ", .str "+1", .str (txI i), .non, .int 5, .str "1_0", .str "1.0"]) (.int k) σ = .ok V σ := by
  refine ixL (P := fun V => ∀ σ, f__law_refused [V] σ = .ok (.bl true) σ) hk.1 (by simp; omega) fun v hv => ?_
  have lit : ∀ x : Str, Asc x → x.length ≤ 1000 → numB x = false → ∀ σ, f__law_refused [.str x] σ = .ok (.bl true) σ := fun x a b c σ => refused_ap (fun σ => num_bad a b c σ) σ
  have nb : ∀ d, (∀ σ, oIsB .str d σ = .ok (.bl false) σ) → ∀ σ, f__law_refused [d] σ = .ok (.bl true) σ := fun d hd σ => refused_ap (fun σ => read_number_bad (fun σ => by unfold f_is_number_text g_is_number_text; simp [hd]) σ) σ
  simp only [List.mem_cons, List.not_mem_nil, or_false] at hv
  rcases hv with rfl | rfl | rfl | rfl | rfl | rfl | rfl | rfl | rfl | rfl
  · exact lit _ (by unfold Asc; decide) (by decide) (by decide)
  · exact lit _ (by unfold Asc; decide) (by decide) (by decide)
  · exact lit _ (by unfold Asc; decide) (by decide) (by decide)
  · exact lit _ (by unfold Asc; decide) (by decide) (by decide)
  · exact lit _ (by unfold Asc; decide) (by decide) (by decide)
  · exact lit _ (asc_tx (by omega)) (by have := tx_len (i := i) (by omega) 39 h1; omega) (num_far h0 h1)
  · exact nb _ fun σ => nr rfl
  · exact nb _ fun σ => nr rfl
  · exact lit _ (by unfold Asc; decide) (by decide) (by decide)
  · exact lit _ (by unfold Asc; decide) (by decide) (by decide)
theorem stB_of {n a b : Int} {ts : List Ti} (hn : 0 ≤ n ∧ n ≤ 1000000) (ha : 0 ≤ a ∧ a ≤ 2000000000000) (hb : 0 ≤ b ∧ b ≤ 2000000000000) (ht : TsOk ts) : stB n a b ts = true := by
  simp only [stB, (tiesB_iff ts).mpr ht, Bool.and_eq_true, decide_eq_true_eq, and_true, eq_self_iff_true]; omega
theorem lv10 (a b c d e f g h i j : D) (σ : Sto) : lvK [a, b, c, d, e, f, g, h, i, j] σ = .ok (.lst [a, b, c, d, e, f, g, h, i, j]) σ := lvK_ap (by rfl)
theorem law_true (ns : List Int) (hns : ns.length ≤ 63) : ∃ σ, f_law [.scr ns] [] = .ok (.bl true) σ := by
  have c0 := fun σ => cell_ap ns 0 (by decide) σ
  have c1 := fun σ => cell_ap ns 1 (by decide) σ
  have c2 := fun σ => cell_ap ns 2 (by decide) σ
  simp only [Int.toNat_zero, Int.toNat_one, Int.reduceToNat] at c0 c1 c2
  generalize cellV ns 0 = z0 at *
  generalize cellV ns 1 = z1 at *
  generalize cellV ns 2 = z2 at *
  have m1 := fun σ : Sto => oMod_ap (σ := σ) (z0 / 30) 1000001 (by decide)
  have hn : 0 ≤ z0 / 30 % 1000001 ∧ z0 / 30 % 1000001 ≤ 1000000 := by omega
  generalize z0 / 30 % 1000001 = n at *
  have ls := fun σ => lstand_ap n z1 σ
  have hb : stB n (stA z1) (stC z1) (tiesV (z1 / 3)) = true := by
    have h1 := shareV_b (mixV z1 50 * 977 + 3)
    have h2 := shareV_b (mixV z1 51 * 983 + mixV z1 52)
    have h3 := tiesV_ok (z1 / 3)
    exact stB_of hn h1 h2 h3
  generalize stA z1 = a at *
  generalize stC z1 = b at *
  generalize tiesV (z1 / 3) = ts at *
  have hS := sn_of hb
  obtain ⟨x, hx, bg⟩ := (fun σ : Sto => begun_ap hS z0 σ) []
  obtain ⟨X, hX, ch⟩ := changed_ap hx z2 []
  have m30 := fun σ : Sto => oMod_ap (σ := σ) z1 1000000000000000000000000000000 (by decide)
  have hf : 0 ≤ z1 % 1000000000000000000000000000000 ∧ z1 % 1000000000000000000000000000000 < 10 ^ 30 := by omega
  generalize z1 % 1000000000000000000000000000000 = far at *
  have sf := fun σ => oStr1_ap (i := 1000000000000000000000000000000 + far) (by omega) (by omega) σ
  have m10 := fun σ : Sto => oMod_ap (σ := σ) z2 10 (by decide)
  obtain ⟨V, hV, ev⟩ := odd_ap (i := 1000000000000000000000000000000 + far) (k := z2 % 10) (by omega) (by omega) ⟨by omega, by omega⟩
  generalize z2 % 10 = k10 at *
  refine ⟨[], ?_⟩
  unfold f_law g_law
  rcases hX with ⟨y, rfl, hy⟩ | ⟨kX, hX⟩
  · obtain ⟨k, qs, hs⟩ := split_cons y
    have sp := fun σ => oSplit_ap (z := y) (y := " ") (spOk_of rfl hy.le) σ
    have hc : (Txt.split y " ").length ≤ 901 := by rw [sp_ch]; exact split_cnt hy.2
    have hg := split_gd (y := " ") hy
    have so := stand_of_ap hg hc
    have t1 := fun σ => told_s (o := (rdS (Txt.split y " ")).oc) (by rw [RS.oc_D]; exact RS.cl _) (fun σ => (read_stand_ap hy σ).trans (RS.oc_out _ σ)) σ
    rw [RS.oc_D] at t1
    have t2 := fun σ => told_t (o := (rdT k qs).oc) (by rw [RT.oc_D]; exact RT.cl _) (fun σ => (read_thing_ap hy hs σ).trans (RT.oc_out _ σ)) σ
    rw [RT.oc_D] at t2
    have th : f__law_thing_of [.lst ((Txt.split y " ").map D.str)] [] = .ok (rdT k qs).D [] := by
      rw [hs] at hg hc ⊢
      exact thing_of_ap hg (by simp at hc; omega)
    have p1 := fun σ => oNe_self (σ := σ) (pl_rs (rdS (Txt.split y " ")))
    have p2 := fun σ => oNe_self (σ := σ) (pl_rt (rdT k qs))
    have kk1 := RS.cl (rdS (Txt.split y " "))
    have kk2 := RT.cl (rdT k qs)
    generalize (rdS (Txt.split y " ")).D = A1 at *
    generalize (rdT k qs).D = A2 at *
    generalize (Txt.split y " ").map D.str = G at *
    generalize txI (1000000000000000000000000000000 + far) = XF at *
    generalize stD n a b ts = S at *
    simp [c0, c1, c2, m1, ls, bg, ch, isb_str, sp, so, th, t1, t2, p1, p2, kk1, kk2, p30, m30, sf, m10, ev, hV, lv10]
  · have t1 := fun σ => told_s (o := .text) (by simp [Oc.D]) (fun σ => bad_stand hX σ) σ
    have t2 := fun σ => told_t (o := .text) (by simp [Oc.D]) (fun σ => bad_thing hX σ) σ
    have t1 : ∀ σ, f__law_told [.bl false, X] σ = .ok (.str "text") σ := t1
    have t2 : ∀ σ, f__law_told [.bl true, X] σ = .ok (.str "text") σ := t2
    have p1 := fun σ => oNe_self (σ := σ) (pl_str "text")
    generalize txI (1000000000000000000000000000000 + far) = XF at *
    generalize stD n a b ts = S at *
    simp [c0, c1, c2, m1, ls, bg, ch, hX, t1, t2, p30, m30, sf, m10, ev, hV, lv10]

end K62
open PySem PySem.W PyProof.Rows
set_option maxRecDepth 100000 in
set_option maxHeartbeats 0 in
theorem PySem.Challenge.cw_sidebook_k62_texts_refused_holds : PySem.Challenge.rw_sidebook_k62_texts_refused.Holds := by
  w_on; o_law; k_head; (case hw => w_witness2)
  k_fill
  refine L4.walkL (l := PySem.Challenge.rw_sidebook_k62_texts_refused) (k := 12) (x := "_law_script") (fn := K62.f_law) rfl rfl ⟨rfl, by decide, by decide⟩ (fun w h Y => PySem.W.kIn_of Y) ?F K62.law_true
  case F =>
    intro w mg h KX G
    have h__law_cell_at : L4.HasFn (L2.KOf KX) mg "_law_cell_at" (K62.top 41) ["_law_script", "_law_k"] := by
      dsimp only [L2.KOf]
      refine' L4.mkF KX G K62.bd__law_cell_at ?a ?l ?c ?k
      (case a => k_is); (case l => k_is); (case c => k_is); (case k => k_is)
    have h__law_share : L4.HasFn (L2.KOf KX) mg "_law_share" (K62.top 44) ["_law_number_here"] := by
      dsimp only [L2.KOf]
      refine' L4.mkF KX G K62.bd__law_share ?a ?l ?c ?k
      (case a => k_is); (case l => k_is); (case c => k_is); (case k => k_is)
    have h__law_mixed : L4.HasFn (L2.KOf KX) mg "_law_mixed" (K62.top 42) ["_law_cell", "_law_k"] := by
      dsimp only [L2.KOf]
      refine' L4.mkF KX G K62.bd__law_mixed ?a ?l ?c ?k
      (case a => k_is); (case l => k_is); (case c => k_is); (case k => k_is)
    have h__law_amount : L4.HasFn (L2.KOf KX) mg "_law_amount" (K62.top 43) ["_law_number_here"] := by
      dsimp only [L2.KOf]
      refine' L4.mkF KX G K62.bd__law_amount ?a ?l ?c ?k
      (case a => k_is); (case l => k_is); (case c => k_is); (case k => k_is)
    have h__law_tie : L4.HasFn (L2.KOf KX) mg "_law_tie" (K62.top 45) ["_law_cell", "_law_k", "_law_words"] := by
      dsimp only [L2.KOf]
      refine' L4.mkF KX G K62.bd__law_tie ?a ?l ?c ?k
      (case a => k_is); (case l => k_is); (case c => k_is); (case k => k_is)
    have h__law_ties : L4.HasFn (L2.KOf KX) mg "_law_ties" (K62.top 46) ["_law_cell"] := by
      dsimp only [L2.KOf]
      refine' L4.mkF KX G K62.bd__law_ties ?a ?l ?c ?k
      (case a => k_is); (case l => k_is); (case c => k_is); (case k => k_is)
    have h__law_stand : L4.HasFn (L2.KOf KX) mg "_law_stand" (K62.top 47) ["_law_number_here", "_law_cell"] := by
      dsimp only [L2.KOf]
      refine' L4.mkF KX G K62.bd__law_stand ?a ?l ?c ?k
      (case a => k_is); (case l => k_is); (case c => k_is); (case k => k_is)
    have h__law_changed : L4.HasFn (L2.KOf KX) mg "_law_changed" (K62.top 50) ["_law_text_here", "_law_cell"] := by
      dsimp only [L2.KOf]
      refine' L4.mkF KX G K62.bd__law_changed ?a ?l ?c ?k
      (case a => k_is); (case l => k_is); (case c => k_is); (case k => k_is)
    have h__law_text : L4.HasFn (L2.KOf KX) mg "_law_text" (K62.top 48) ["_law_one"] := by
      dsimp only [L2.KOf]
      refine' L4.mkF KX G K62.bd__law_text ?a ?l ?c ?k
      (case a => k_is); (case l => k_is); (case c => k_is); (case k => k_is)
    have h__law_begun : L4.HasFn (L2.KOf KX) mg "_law_begun" (K62.top 49) ["_law_cell", "_law_one"] := by
      dsimp only [L2.KOf]
      refine' L4.mkF KX G K62.bd__law_begun ?a ?l ?c ?k
      (case a => k_is); (case l => k_is); (case c => k_is); (case k => k_is)
    have h__law_number : L4.HasFn (L2.KOf KX) mg "_law_number" (K62.top 51) ["_law_word"] := by
      dsimp only [L2.KOf]
      refine' L4.mkF KX G K62.bd__law_number ?a ?l ?c ?k
      (case a => k_is); (case l => k_is); (case c => k_is); (case k => k_is)
    have h__law_stand_of : L4.HasFn (L2.KOf KX) mg "_law_stand_of" (K62.top 52) ["_law_words"] := by
      dsimp only [L2.KOf]
      refine' L4.mkF KX G K62.bd__law_stand_of ?a ?l ?c ?k
      (case a => k_is); (case l => k_is); (case c => k_is); (case k => k_is)
    have h__law_thing_of : L4.HasFn (L2.KOf KX) mg "_law_thing_of" (K62.top 53) ["_law_words"] := by
      dsimp only [L2.KOf]
      refine' L4.mkF KX G K62.bd__law_thing_of ?a ?l ?c ?k
      (case a => k_is); (case l => k_is); (case c => k_is); (case k => k_is)
    have h_is_number_text : L4.HasFn (L2.KOf KX) mg "is_number_text" (K62.top 32) ["thing"] := by
      dsimp only [L2.KOf]
      refine' L4.mkF KX G K62.bd_is_number_text ?a ?l ?c ?k
      (case a => k_is); (case l => k_is); (case c => k_is); (case k => k_is)
    have h_read_number : L4.HasFn (L2.KOf KX) mg "read_number" (K62.top 33) ["text"] := by
      dsimp only [L2.KOf]
      refine' L4.mkF KX G K62.bd_read_number ?a ?l ?c ?k
      (case a => k_is); (case l => k_is); (case c => k_is); (case k => k_is)
    have h_read_numbers : L4.HasFn (L2.KOf KX) mg "read_numbers" (K62.top 34) ["texts", "count"] := by
      dsimp only [L2.KOf]
      refine' L4.mkF KX G K62.bd_read_numbers ?a ?l ?c ?k
      (case a => k_is); (case l => k_is); (case c => k_is); (case k => k_is)
    have h_split_at : L4.HasFn (L2.KOf KX) mg "split_at" (K62.top 35) ["text", "sign"] := by
      dsimp only [L2.KOf]
      refine' L4.mkF KX G K62.bd_split_at ?a ?l ?c ?k
      (case a => k_is); (case l => k_is); (case c => k_is); (case k => k_is)
    have h_read_tie : L4.HasFn (L2.KOf KX) mg "read_tie" (K62.top 36) ["text"] := by
      dsimp only [L2.KOf]
      refine' L4.mkF KX G K62.bd_read_tie ?a ?l ?c ?k
      (case a => k_is); (case l => k_is); (case c => k_is); (case k => k_is)
    have h_is_whole : L4.HasFn (L2.KOf KX) mg "is_whole" (K62.top 10) ["thing"] := by
      dsimp only [L2.KOf]
      refine' L4.mkF KX G K62.bd_is_whole ?a ?l ?c ?k
      (case a => k_is); (case l => k_is); (case c => k_is); (case k => k_is)
    have h_is_between : L4.HasFn (L2.KOf KX) mg "is_between" (K62.top 11) ["thing", "least", "most"] := by
      dsimp only [L2.KOf]
      refine' L4.mkF KX G K62.bd_is_between ?a ?l ?c ?k
      (case a => k_is); (case l => k_is); (case c => k_is); (case k => k_is)
    have h_is_day : L4.HasFn (L2.KOf KX) mg "is_day" (K62.top 14) ["thing"] := by
      dsimp only [L2.KOf]
      refine' L4.mkF KX G K62.bd_is_day ?a ?l ?c ?k
      (case a => k_is); (case l => k_is); (case c => k_is); (case k => k_is)
    have h_is_word : L4.HasFn (L2.KOf KX) mg "is_word" (K62.top 13) ["thing"] := by
      dsimp only [L2.KOf]
      refine' L4.mkF KX G K62.bd_is_word ?a ?l ?c ?k
      (case a => k_is); (case l => k_is); (case c => k_is); (case k => k_is)
    have h_is_amount : L4.HasFn (L2.KOf KX) mg "is_amount" (K62.top 16) ["thing"] := by
      dsimp only [L2.KOf]
      refine' L4.mkF KX G K62.bd_is_amount ?a ?l ?c ?k
      (case a => k_is); (case l => k_is); (case c => k_is); (case k => k_is)
    have h_is_side : L4.HasFn (L2.KOf KX) mg "is_side" (K62.top 12) ["thing"] := by
      dsimp only [L2.KOf]
      refine' L4.mkF KX G K62.bd_is_side ?a ?l ?c ?k
      (case a => k_is); (case l => k_is); (case c => k_is); (case k => k_is)
    have h_is_tie : L4.HasFn (L2.KOf KX) mg "is_tie" (K62.top 21) ["thing"] := by
      dsimp only [L2.KOf]
      refine' L4.mkF KX G K62.bd_is_tie ?a ?l ?c ?k
      (case a => k_is); (case l => k_is); (case c => k_is); (case k => k_is)
    have h_are_ties : L4.HasFn (L2.KOf KX) mg "are_ties" (K62.top 23) ["thing"] := by
      dsimp only [L2.KOf]
      refine' L4.mkF KX G K62.bd_are_ties ?a ?l ?c ?k
      (case a => k_is); (case l => k_is); (case c => k_is); (case k => k_is)
    have h_are_shares : L4.HasFn (L2.KOf KX) mg "are_shares" (K62.top 22) ["thing"] := by
      dsimp only [L2.KOf]
      refine' L4.mkF KX G K62.bd_are_shares ?a ?l ?c ?k
      (case a => k_is); (case l => k_is); (case c => k_is); (case k => k_is)
    have h_is_number : L4.HasFn (L2.KOf KX) mg "is_number" (K62.top 15) ["thing"] := by
      dsimp only [L2.KOf]
      refine' L4.mkF KX G K62.bd_is_number ?a ?l ?c ?k
      (case a => k_is); (case l => k_is); (case c => k_is); (case k => k_is)
    have h_is_stand : L4.HasFn (L2.KOf KX) mg "is_stand" (K62.top 24) ["thing"] := by
      dsimp only [L2.KOf]
      refine' L4.mkF KX G K62.bd_is_stand ?a ?l ?c ?k
      (case a => k_is); (case l => k_is); (case c => k_is); (case k => k_is)
    have h_stand : L4.HasFnD (L2.KOf KX) mg "stand" (K62.top 25) ["number", "shares", "ties"] [Value.none] := by
      dsimp only [L2.KOf]
      refine' L4.mkFD KX G K62.bd_stand ?a ?l ?c ?k ?d
      (case a => k_is); (case l => k_is); (case c => k_is); (case k => k_is); (case d => k_is)
    have h_read_stand : L4.HasFn (L2.KOf KX) mg "read_stand" (K62.top 37) ["text"] := by
      dsimp only [L2.KOf]
      refine' L4.mkF KX G K62.bd_read_stand ?a ?l ?c ?k
      (case a => k_is); (case l => k_is); (case c => k_is); (case k => k_is)
    have h_read_parts : L4.HasFn (L2.KOf KX) mg "read_parts" (K62.top 38) ["parts"] := by
      dsimp only [L2.KOf]
      refine' L4.mkF KX G K62.bd_read_parts ?a ?l ?c ?k
      (case a => k_is); (case l => k_is); (case c => k_is); (case k => k_is)
    have h_is_pot : L4.HasFn (L2.KOf KX) mg "is_pot" (K62.top 17) ["thing"] := by
      dsimp only [L2.KOf]
      refine' L4.mkF KX G K62.bd_is_pot ?a ?l ?c ?k
      (case a => k_is); (case l => k_is); (case c => k_is); (case k => k_is)
    have h_is_of_a_side : L4.HasFn (L2.KOf KX) mg "is_of_a_side" (K62.top 27) ["thing"] := by
      dsimp only [L2.KOf]
      refine' L4.mkF KX G K62.bd_is_of_a_side ?a ?l ?c ?k
      (case a => k_is); (case l => k_is); (case c => k_is); (case k => k_is)
    have h_is_thing : L4.HasFn (L2.KOf KX) mg "is_thing" (K62.top 28) ["thing"] := by
      dsimp only [L2.KOf]
      refine' L4.mkF KX G K62.bd_is_thing ?a ?l ?c ?k
      (case a => k_is); (case l => k_is); (case c => k_is); (case k => k_is)
    have h_read_thing : L4.HasFn (L2.KOf KX) mg "read_thing" (K62.top 39) ["text"] := by
      dsimp only [L2.KOf]
      refine' L4.mkF KX G K62.bd_read_thing ?a ?l ?c ?k
      (case a => k_is); (case l => k_is); (case c => k_is); (case k => k_is)
    have h__law_told : L4.HasFn (L2.KOf KX) mg "_law_told" (K62.top 54) ["_law_thing", "_law_text_here"] := by
      dsimp only [L2.KOf]
      refine' L4.mkF KX G K62.bd__law_told ?a ?l ?c ?k
      (case a => k_is); (case l => k_is); (case c => k_is); (case k => k_is)
    have h__law_refused : L4.HasFn (L2.KOf KX) mg "_law_refused" (K62.top 55) ["_law_word"] := by
      dsimp only [L2.KOf]
      refine' L4.mkF KX G K62.bd__law_refused ?a ?l ?c ?k
      (case a => k_is); (case l => k_is); (case c => k_is); (case k => k_is)
    have h_law : L4.HasFn (L2.KOf KX) mg "law" (K62.top 56) ["_law_script"] := by
      dsimp only [L2.KOf]
      refine' L4.mkF KX G K62.bd_law ?a ?l ?c ?k
      (case a => k_is); (case l => k_is); (case c => k_is); (case k => k_is)
    have n_all : mg "all" = none := by
      refine' PySem.W.mg_none_of KX G ?a
      (case a => k_is)
    have n_bool : mg "bool" = none := by
      refine' PySem.W.mg_none_of KX G ?a
      (case a => k_is)
    have n_int : mg "int" = none := by
      refine' PySem.W.mg_none_of KX G ?a
      (case a => k_is)
    have n_isinstance : mg "isinstance" = none := by
      refine' PySem.W.mg_none_of KX G ?a
      (case a => k_is)
    have n_len : mg "len" = none := by
      refine' PySem.W.mg_none_of KX G ?a
      (case a => k_is)
    have n_max : mg "max" = none := by
      refine' PySem.W.mg_none_of KX G ?a
      (case a => k_is)
    have n_range : mg "range" = none := by
      refine' PySem.W.mg_none_of KX G ?a
      (case a => k_is)
    have n_set : mg "set" = none := by
      refine' PySem.W.mg_none_of KX G ?a
      (case a => k_is)
    have n_str : mg "str" = none := by
      refine' PySem.W.mg_none_of KX G ?a
      (case a => k_is)
    have n_tuple : mg "tuple" = none := by
      refine' PySem.W.mg_none_of KX G ?a
      (case a => k_is)
    have c_FIGURES : ∃ t, mg "FIGURES" = some (.str "0123456789" t) := by
      refine' L4.mkS KX G ?a
      (case a => k_is)
    have c_MOST_AMOUNT : ∃ t, mg "MOST_AMOUNT" = some (.int 1000000000000 t) := by
      refine' L4.mkI KX G ?a
      (case a => k_is)
    have c_MOST_DAY : ∃ t, mg "MOST_DAY" = some (.int 1000000 t) := by
      refine' L4.mkI KX G ?a
      (case a => k_is)
    have c_MOST_FIGURES : ∃ t, mg "MOST_FIGURES" = some (.int 30 t) := by
      refine' L4.mkI KX G ?a
      (case a => k_is)
    have c_MOST_NUMBER : ∃ t, mg "MOST_NUMBER" = some (.int 1000000 t) := by
      refine' L4.mkI KX G ?a
      (case a => k_is)
    have c_MOST_POT : ∃ t, mg "MOST_POT" = some (.int 2 t) := by
      refine' L4.mkI KX G ?a
      (case a => k_is)
    have c_MOST_SHARE : ∃ t, mg "MOST_SHARE" = some (.int 2000000000000 t) := by
      refine' L4.mkI KX G ?a
      (case a => k_is)
    have c_MOST_TIES : ∃ t, mg "MOST_TIES" = some (.int 6 t) := by
      refine' L4.mkI KX G ?a
      (case a => k_is)
    have c_MOST_WORD : ∃ t, mg "MOST_WORD" = some (.int 59 t) := by
      refine' L4.mkI KX G ?a
      (case a => k_is)
    refine' (have q0 : PySem.W.nsIn (L2.KOf KX) mainGlobals "BookError" = some (some (.ref ?C0)) := ?p0; ?_)
    (case p0 => dsimp only [L2.KOf]; first | k_is | k_exc | rfl)
    refine' (have q1 : PySem.W.excIn (L2.KOf KX) ?C0 L4.veB "ValueError.__new__" = true := ?p1; ?_)
    (case p1 => dsimp only [L2.KOf]; first | k_is | k_exc | rfl)
    refine' (have q2 : PySem.W.nsIn (L2.KOf KX) mainGlobals "NoStand" = some (some (.ref ?C1)) := ?p2; ?_)
    (case p2 => dsimp only [L2.KOf]; first | k_is | k_exc | rfl)
    refine' (have q3 : PySem.W.excIn (L2.KOf KX) ?C1 L4.veB "ValueError.__new__" = true := ?p3; ?_)
    (case p3 => dsimp only [L2.KOf]; first | k_is | k_exc | rfl)
    refine' (have q4 : PySem.W.nsIn (L2.KOf KX) mainGlobals "NoText" = some (some (.ref ?C2)) := ?p4; ?_)
    (case p4 => dsimp only [L2.KOf]; first | k_is | k_exc | rfl)
    refine' (have q5 : PySem.W.excIn (L2.KOf KX) ?C2 L4.veB "ValueError.__new__" = true := ?p5; ?_)
    (case p5 => dsimp only [L2.KOf]; first | k_is | k_exc | rfl)
    refine' (have q6 : PySem.W.exmOne (L2.KOf KX) (.ref ?C0) (.ref ?C1) = some false := ?p6; ?_)
    (case p6 => dsimp only [L2.KOf]; first | k_is | k_exc | rfl)
    refine' (have q7 : PySem.W.exmOne (L2.KOf KX) (.ref ?C0) (.ref ?C2) = some false := ?p7; ?_)
    (case p7 => dsimp only [L2.KOf]; first | k_is | k_exc | rfl)
    refine' (have q8 : PySem.W.exmOne (L2.KOf KX) (.ref ?C1) (.ref ?C1) = some true := ?p8; ?_)
    (case p8 => dsimp only [L2.KOf]; first | k_is | k_exc | rfl)
    refine' (have q9 : PySem.W.exmOne (L2.KOf KX) (.ref ?C1) (.ref ?C2) = some false := ?p9; ?_)
    (case p9 => dsimp only [L2.KOf]; first | k_is | k_exc | rfl)
    refine' (have q10 : PySem.W.exmOne (L2.KOf KX) (.ref ?C2) (.ref ?C1) = some false := ?p10; ?_)
    (case p10 => dsimp only [L2.KOf]; first | k_is | k_exc | rfl)
    refine' (have q11 : PySem.W.exmOne (L2.KOf KX) (.ref ?C2) (.ref ?C2) = some true := ?p11; ?_)
    (case p11 => dsimp only [L2.KOf]; first | k_is | k_exc | rfl)
    refine' (have q12 : L4.ExK (L2.KOf KX) ?C2 := ?p12; ?_)
    (case p12 => dsimp only [L2.KOf]; refine' ⟨?a, ?b, ?c, ?d, ?e, ?f, ?g, ?h⟩; (case a => k_is); (case b => k_is); (case c => k_is); (case d => k_is); (case e => k_is); (case f => k_is); (case g => k_is); (case h => k_is))
    refine' (have q13 : L4.ExK (L2.KOf KX) ?C1 := ?p13; ?_)
    (case p13 => dsimp only [L2.KOf]; refine' ⟨?a, ?b, ?c, ?d, ?e, ?f, ?g, ?h⟩; (case a => k_is); (case b => k_is); (case c => k_is); (case d => k_is); (case e => k_is); (case f => k_is); (case g => k_is); (case h => k_is))
    refine' (have q14 : L4.ExK (L2.KOf KX) ?C0 := ?p14; ?_)
    (case p14 => dsimp only [L2.KOf]; refine' ⟨?a, ?b, ?c, ?d, ?e, ?f, ?g, ?h⟩; (case a => k_is); (case b => k_is); (case c => k_is); (case d => k_is); (case e => k_is); (case f => k_is); (case g => k_is); (case h => k_is))
    refine' (have q15 : PySem.W.kitOne (L2.KOf KX) (.ref ?C0) (.ref ?C0) = some true := ?p15; ?_)
    (case p15 => dsimp only [L2.KOf]; first | k_is | k_exc | rfl)
    refine' (have q16 : PySem.W.kitOne (L2.KOf KX) (.ref ?C0) (.ref ?C1) = some false := ?p16; ?_)
    (case p16 => dsimp only [L2.KOf]; first | k_is | k_exc | rfl)
    refine' (have q17 : PySem.W.kitOne (L2.KOf KX) (.ref ?C0) (.ref ?C2) = some false := ?p17; ?_)
    (case p17 => dsimp only [L2.KOf]; first | k_is | k_exc | rfl)
    refine' (have q18 : PySem.W.kitOne (L2.KOf KX) (.ref ?C1) (.ref ?C0) = some true := ?p18; ?_)
    (case p18 => dsimp only [L2.KOf]; first | k_is | k_exc | rfl)
    refine' (have q19 : PySem.W.kitOne (L2.KOf KX) (.ref ?C1) (.ref ?C1) = some true := ?p19; ?_)
    (case p19 => dsimp only [L2.KOf]; first | k_is | k_exc | rfl)
    refine' (have q20 : PySem.W.kitOne (L2.KOf KX) (.ref ?C1) (.ref ?C2) = some false := ?p20; ?_)
    (case p20 => dsimp only [L2.KOf]; first | k_is | k_exc | rfl)
    refine' (have q21 : PySem.W.kitOne (L2.KOf KX) (.ref ?C2) (.ref ?C0) = some true := ?p21; ?_)
    (case p21 => dsimp only [L2.KOf]; first | k_is | k_exc | rfl)
    refine' (have q22 : PySem.W.kitOne (L2.KOf KX) (.ref ?C2) (.ref ?C1) = some false := ?p22; ?_)
    (case p22 => dsimp only [L2.KOf]; first | k_is | k_exc | rfl)
    refine' (have q23 : PySem.W.kitOne (L2.KOf KX) (.ref ?C2) (.ref ?C2) = some true := ?p23; ?_)
    (case p23 => dsimp only [L2.KOf]; first | k_is | k_exc | rfl)
    refine ⟨fun n => ([?C0, ?C1, ?C2] : List Addr).getD n 0, ?_⟩
    exact K62.ok_law ⟨h__law_cell_at, h__law_share, h__law_mixed, h__law_amount, h__law_tie, h__law_ties, h__law_stand, h__law_changed, h__law_text, h__law_begun, h__law_number, h__law_stand_of, h__law_thing_of, h_is_number_text, h_read_number, h_read_numbers, h_split_at, h_read_tie, h_is_whole, h_is_between, h_is_day, h_is_word, h_is_amount, h_is_side, h_is_tie, h_are_ties, h_are_shares, h_is_number, h_is_stand, h_stand, h_read_stand, h_read_parts, h_is_pot, h_is_of_a_side, h_is_thing, h_read_thing, h__law_told, h__law_refused, h_law, n_all, n_bool, n_int, n_isinstance, n_len, n_max, n_range, n_set, n_str, n_tuple, c_FIGURES, c_MOST_AMOUNT, c_MOST_DAY, c_MOST_FIGURES, c_MOST_NUMBER, c_MOST_POT, c_MOST_SHARE, c_MOST_TIES, c_MOST_WORD, PySem.W.mg_of KX G q0, q1, PySem.W.mg_of KX G q2, q3, PySem.W.mg_of KX G q4, q5, q6, q7, q8, q9, q10, q11, q12, q13, q14, q15, q16, q17, q18, q19, q20, q21, q22, q23⟩

