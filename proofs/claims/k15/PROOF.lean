import PyProof.Rows.All
import Wide.All
import OpenK.AllK
import Wide.FinOn
import Lean
import PyProof.EqAt
import PyProof.EqKinds
import PyProof.TupleCall
import PyProof.NeKinds
import PyProof.NsDelKeeps
import KE.KTryMore
import PyProof.WalksMore
import PyProof.Rows.SetFrom
import KE.KEqDict
import PySem.Challenge.RW_sidebook_k15_what_is_due
set_option Elab.async false
set_option linter.all false
set_option maxRecDepth 100000
def PySem.W.Fast.tw781443572059836951 : Nat := 0
def PySem.W.Fast.tw11482989231527629977 : Nat := 0
def PySem.W.Fast.tw4936755592048704085 : Nat := 0
def PySem.W.Fast.tw16940907024648528494 : Nat := 0
def PySem.W.Fast.tw6647514251602368205 : Nat := 0
def PySem.W.Fast.tw1854149609816345336 : Nat := 0
def PySem.W.Fast.tw12937725055088901148 : Nat := 0
def PySem.W.Fast.tw2743781593985914637 : Nat := 0
def PySem.W.Fast.tw6381506564012919059 : Nat := 0
def PySem.W.Fast.tw6836044752090473884 : Nat := 0
def PySem.W.Fast.tw17852872729726376517 : Nat := 0
def PySem.W.Fast.tw10608405281360067578 : Nat := 0
def PySem.W.Fast.tw6036389906508134972 : Nat := 0
def PySem.W.Fast.tw3671552408255921257 : Nat := 0
def PySem.W.Fast.tw16260692581519094601 : Nat := 0
def PySem.W.Fast.tw10780992981009042759 : Nat := 0
def PySem.W.Fast.tw2923495742605902305 : Nat := 0
def PySem.W.Fast.tw3557540410003655309 : Nat := 0
def PySem.W.Fast.tw1167003696573408242 : Nat := 0
def PySem.W.Fast.tw4831586985701573630 : Nat := 0
def PySem.W.Fast.tw1222399092202720044 : Nat := 0
def PySem.W.Fast.tw183036572854972249 : Nat := 0
def PySem.W.Fast.tw12229885637130211494 : Nat := 0
def PySem.W.Fast.tw16378601961234093273 : Nat := 0
def PySem.W.Fast.tw15035386483672756115 : Nat := 0
def PySem.W.Fast.tw12247887308224718290 : Nat := 0
def PySem.W.Fast.tw5068686658981037440 : Nat := 0
def PySem.W.Fast.tw17220909031106314848 : Nat := 0
def PySem.W.Fast.tw12482828551421843055 : Nat := 0
def PySem.W.Fast.tw3421060667826796243 : Nat := 0
namespace L2
open PySem PySem.Spec PyProof.Rows
abbrev Key := Sum Int Str
def yfr : Key -> Value -> Bool
  | .inl k, v => Value.isInt k v
  | .inr x, v => Value.isStrOf x v
def keyH (w : World) : Key -> Int
  | .inl k => hashInt k
  | .inr x => hashStr w x
theorem zgr : ∀ {k : Key} {v : Value}, yfr k v = true -> (∃ i t, k = Sum.inl i /\ v = Value.int i t) \/ (∃ x t, k = Sum.inr x /\ v = Value.str x t)
  | .inl i, v, h => by
    obtain ⟨t, e⟩ := Value.isInt_shape (k := i) (v := v) h
    exact .inl ⟨i, t, rfl, e⟩
  | .inr x, v, h => by
    obtain ⟨t, e⟩ := Value.isStrOf_shape (x := x) (v := v) h
    exact .inr ⟨x, t, rfl, e⟩
theorem zlf (i : Int) (t : Tok) : yfr (.inl i) (.int i t) = true := by simp [yfr, Value.isInt]
theorem zlg (x : Str) (t : Tok) : yfr (.inr x) (.str x t) = true := by simp [yfr, Value.isStrOf]
theorem yav (a b : Int) : decide ((Sum.inl a : Key) = Sum.inl b) = (a == b) := by
  by_cases e : a = b
  · subst e; simp
  · have h : ¬ (Sum.inl a : Key) = Sum.inl b := fun q => e (Sum.inl.inj q)
    rw [decide_eq_false h]
    exact (beq_eq_false_iff_ne.mpr e).symm
theorem yaz (a b : Str) : decide ((Sum.inr a : Key) = Sum.inr b) = decide (a = b) := by
  by_cases e : a = b
  · subst e; simp
  · have h : ¬ (Sum.inr a : Key) = Sum.inr b := fun q => e (Sum.inr.inj q)
    rw [decide_eq_false h, decide_eq_false e]
theorem yaw (a : Int) (b : Str) : decide ((Sum.inl a : Key) = Sum.inr b) = false := decide_eq_false (fun q => nomatch q)
theorem yay (a : Str) (b : Int) : decide ((Sum.inr a : Key) = Sum.inl b) = false := decide_eq_false (fun q => nomatch q)
def zu8 (prog : Program) (w : World) : PySem.KeyKind prog w Key where
  is := yfr
  hash := keyH w
  inj := fun v a b ha hb => by
    rcases zgr ha with ⟨i, t, rfl, rfl⟩ | ⟨x, t, rfl, rfl⟩
    · rcases zgr hb with ⟨j, u, rfl, e⟩ | ⟨y, u, rfl, e⟩
      · injection e with e1 _; rw [e1]
      · exact nomatch e
    · rcases zgr hb with ⟨j, u, rfl, e⟩ | ⟨y, u, rfl, e⟩
      · exact nomatch e
      · injection e with e1 _; rw [e1]
  byValue := fun k v h => by
    rcases zgr h with ⟨i, t, rfl, rfl⟩ | ⟨x, t, rfl, rfl⟩ <;> rfl
  pyHash := fun hv h => by
    rcases zgr hv with ⟨i, t, rfl, rfl⟩ | ⟨x, t, rfl, rfl⟩
    · exact wpAny_pyHash_int h
    · exact wpAny_pyHash_str h
  eqBool := fun hu hv h => by
    rcases zgr hu with ⟨i, t, rfl, rfl⟩ | ⟨x, t, rfl, rfl⟩
    · rcases zgr hv with ⟨j, u, rfl, rfl⟩ | ⟨y, u, rfl, rfl⟩
      · rw [yav] at h; exact wpAny_eqBool_int h
      · rw [yaw] at h; exact SeqAt.EqAt.int_str i t y u _ _ _ _ h
    · rcases zgr hv with ⟨j, u, rfl, rfl⟩ | ⟨y, u, rfl, rfl⟩
      · rw [yay] at h; exact SeqAt.EqAt.str_int x t j u _ _ _ _ h
      · rw [yaz] at h; exact wpAny_eqBool_str h
  «strs» := fun k x t v h => by
    rcases zgr h with ⟨i, u, rfl, e⟩ | ⟨y, u, rfl, e⟩
    · exact nomatch e
    · injection e with e1 _
      subst e1
      cases v <;> rfl
theorem zgw (prog : Program) (w : World) (i : Int) (t : Tok) : (zu8 prog w).is (.inl i) (.int i t) = true := zlf i t
theorem zgx (prog : Program) (w : World) (x : Str) (t : Tok) : (zu8 prog w).is (.inr x) (.str x t) = true := zlg x t
end L2
namespace L2
open PySem PySem.Spec PyProof.Rows
inductive V where
  | non | bl (b : Bool) | int (i : Int) | str (x : Str) | byt (b : Array UInt8) | flt (b : UInt64) | ref (a : Addr) | ty (n : String)
  deriving DecidableEq
def yhr : V -> Value -> Prop
  | .non, u => u = Value.none
  | .bl b, u => u = Value.bool b
  | .int i, u => ∃ t, u = Value.int i t
  | .str x, u => ∃ t, u = Value.str x t
  | .byt b, u => ∃ t, u = Value.bytes b t
  | .flt b, u => ∃ t, u = Value.float b t
  | .ref a, u => u = Value.ref a
  | .ty n, u => u = Value.type n
abbrev yhw : List V -> List Value -> Prop := Paired yhr
theorem yhw.length {xs : List V} {us : List Value} (r : yhw xs us) : xs.length = us.length := Paired.length r
theorem yhw.get : ∀ {xs : List V} {us : List Value} {i : Nat} {x : V}, yhw xs us -> xs[i]? = some x -> ∃ u, us[i]? = some u /\ yhr x u
  | _, _, _, _, .nil, e => by simp at e
  | _, _, 0, _, .cons r _, e => by simp at e; subst e; exact ⟨_, rfl, r⟩
  | _, _, i + 1, x, .cons _ t, e => by
    obtain ⟨u, h1, h2⟩ := yhw.get (i := i) (x := x) t (by simpa using e)
    exact ⟨u, by simpa using h1, h2⟩
theorem yhw.set {x : V} {u : Value} (r : yhr x u) : ∀ {xs : List V} {us : List Value} (i : Nat), yhw xs us -> yhw (xs.set i x) (us.set i u)
  | _, _, _, .nil => .nil
  | _, _, 0, .cons _ t => .cons r t
  | _, _, i + 1, .cons q t => .cons q (yhw.set r i t)
theorem yhw.append : ∀ {xs ys : List V} {us ws : List Value}, yhw xs us -> yhw ys ws -> yhw (xs ++ ys) (us ++ ws)
  | _, _, _, _, .nil, s => s
  | _, _, _, _, .cons r t, s => .cons r (yhw.append t s)
theorem yhw.take : ∀ {xs : List V} {us : List Value} (n : Nat), yhw xs us -> yhw (xs.take n) (us.take n)
  | _, _, 0, _ => .nil
  | _, _, _ + 1, .nil => .nil
  | _, _, n + 1, .cons r t => .cons r (yhw.take n t)
theorem yhw.drop : ∀ {xs : List V} {us : List Value} (n : Nat), yhw xs us -> yhw (xs.drop n) (us.drop n)
  | _, _, 0, r => r
  | _, _, _ + 1, .nil => .nil
  | _, _, n + 1, .cons _ t => yhw.drop n t
theorem yhw.none_of : ∀ {xs : List V} {us : List Value} {i : Nat}, yhw xs us -> xs[i]? = none -> us[i]? = none := fun {xs us i} r e => by
  have h1 := r.length
  have h2 : xs.length <= i := List.getElem?_eq_none_iff.mp e
  exact List.getElem?_eq_none_iff.mpr (by omega)
def yhq : Option V -> Option Value -> Prop
  | some v, some u => yhr v u
  | none, none => True
  | _, _ => False
def KV {κ : Type} : List (κ × V) -> List (κ × Value) -> Prop := Paired fun (p : κ × V) (q : κ × Value) => p.1 = q.1 /\ yhr p.2 q.2
def kV : Key -> V
  | .inl i => .int i
  | .inr x => .str x
inductive HO where
  | lst (xs : List V)
  | tup (xs : List V)
  | dK (kvs : List (Key × V)) | dT (kvs : List (List Key × V))
  | set (S : Int -> Bool) (n : Nat)
  | ins (C dx : Addr) (fs : List (Str × V))
  | own (x : Addr)
  | xd (fs : List (Str × V))
  | met (f x : Addr)
  | rng (lo hi : Int)
  | frz (o : Obj) (u : HO)
  | tbl (ps : Array Value)
  | ext (φ : Heap -> Prop)
abbrev Hp := Addr -> Option HO
def upd (H : Hp) (a : Addr) (o : HO) : Hp := fun b => if b = a then some o else H b
theorem upd_same {H : Hp} {a : Addr} {o : HO} : upd H a o a = some o := by unfold upd; rw [if_pos rfl]
theorem upd_ne {H : Hp} {a b : Addr} {o : HO} (h : b ≠ a) : upd H a o b = H b := by unfold upd; rw [if_neg h]
theorem yf6 {H : Hp} {a b : Addr} {o u : HO} (h : H a = some o) (h' : H b = some u) (d : o ≠ u) : a ≠ b := by
  intro e; subst e; rw [h] at h'; exact d (Option.some.inj h')
theorem ziz {H : Hp} {a b : Addr} {o : HO} (h : H a = some o) (h' : H b = none) : a ≠ b := by
  intro e; subst e; rw [h] at h'; cases h'
section
variable (P : Program) (w : World)
def yed (H : Hp) (h : Heap) (a : Addr) : HO -> Prop
  | .lst xs => xs.length <= sizeLine /\ ∃ (its : List Value) (n : Nat), yhw xs its /\ h.get? a = some { cls := .type "list", data := .seq its.toArray n }
  | .tup xs => xs.length <= sizeLine /\ ∃ its : List Value, yhw xs its /\ IsTup h a its.toArray
  | .dK kvs => kvs.length <= sizeLine /\ (a == sysModules) = false /\ ∃ vs, KV kvs vs /\ h.DictOf (zu8 P w) a vs
  | .dT kvs => kvs.length <= sizeLine /\ (a == sysModules) = false /\ ∃ xs : List (List Key × Addr × Value),
      Paired (fun (p : List Key × V) (q : List Key × Addr × Value) => p.1 = q.1 /\ H q.2.1 = some (.tup (p.1.map kV)) /\ yhr p.2 q.2.2) kvs xs /\
      ∃ o es ep, h.get? a = some o /\ o.ExactDict /\ o.data = .dict es ep /\ es.toList = xs.map (entryOfKey (tupleKind (zu8 P w))) /\ (xs.map (·.1)).Nodup
  | .set S n => h.SetOf (intKind P w) a S n
  | .ins C dx fs => H dx = some (.own a) /\ fs.length <= 1000 /\ dx ≠ a /\ h.get? a = some (PySem.W.instObj C dx) /\
      ∃ mA, h.Ns1 dx mA /\ (∀ f, yhq (fs.lookup f) (mA f)) /\ PySem.Within mA (fs.map (·.1))
  | .own _ => ∃ o, h.get? a = some o
  | .xd fs => ∃ mA, h.Ns1 a mA /\ ∀ f, yhq (fs.lookup f) (mA f)
  | .rng lo hi => ∃ t u v, h.get? a = some { cls := .type "range", data := .fields #[.int lo t, .int hi u, .int 1 v] }
  | .frz o u => h.get? a = some o /\ yed H h a u
  | .tbl ps => h.get? a = some { cls := .none, data := .fields ps }
  | .met f x => h.get? a = some (PySem.W.methodObj (.ref f) (.ref x))
  | .ext φ => φ h /\ (∃ o, h.get? a = some o) /\ ∀ h1 h2 : Heap, φ h1 -> (∀ o, h1.get? a = some o -> h2.get? a = some o) -> φ h2
def HOk (H : Hp) (h : Heap) : Prop := ∀ a o, H a = some o -> yed P w H h a o
end
section
variable {P : Program} {w : World} {H H' : Hp} {h h' : Heap} {a : Addr} {o : HO}
theorem yed.lt (x : yed P w H h a o) : a < h.objs.size := by
  cases o with
  | lst xs => obtain ⟨_, _, _, _, e⟩ := x; exact Heap.lt_size e
  | tup xs => obtain ⟨_, _, _, p⟩ := x; exact p.lt
  | dK kvs => obtain ⟨_, _, _, _, o, _, _, e, _⟩ := x; exact Heap.lt_size e
  | dT kvs => obtain ⟨_, _, _, _, o, _, _, e, _⟩ := x; exact Heap.lt_size e
  | set S n => obtain ⟨o, _, _, _, e, _⟩ := x; exact Heap.lt_size e
  | ins C dx fs => obtain ⟨_, _, _, e, _⟩ := x; exact Heap.lt_size e
  | own y => obtain ⟨_, e⟩ := x; exact Heap.lt_size e
  | xd fs => obtain ⟨_, ⟨_, _, _, e, _⟩, _⟩ := x; exact Heap.lt_size e
  | rng lo hi => obtain ⟨_, _, _, e⟩ := x; exact Heap.lt_size e
  | frz ob u => obtain ⟨e, _⟩ := x; exact Heap.lt_size e
  | tbl ps => exact Heap.lt_size (show h.get? a = some _ from x)
  | met f y => exact Heap.lt_size (show h.get? a = some _ from x)
  | ext φ => obtain ⟨_, ⟨_, e⟩, _⟩ := x; exact Heap.lt_size e
theorem Paired.mapP {α β : Type} {F G : α -> β -> Prop} : ∀ {l₁ : List α} {l₂ : List β}, Paired F l₁ l₂ -> (∀ a b, F a b -> G a b) -> Paired G l₁ l₂
  | _, _, .nil, _ => .nil
  | _, _, .cons r t, f => .cons (f _ _ r) (Paired.mapP t f)
theorem yed.stay (x : yed P w H h a o) (k : ∀ b u, (b = a \/ H b = some (.own a)) -> h.get? b = some u -> h'.get? b = some u)
    (ho : ∀ b, H b = some (.own a) -> H' b = some (.own a)) (ht : ∀ b xs, H b = some (.tup xs) -> H' b = some (.tup xs)) : yed P w H' h' a o := by
  induction o with
  | lst xs => obtain ⟨z, its, n, r, e⟩ := x; exact ⟨z, its, n, r, k _ _ (.inl rfl) e⟩
  | tup xs => obtain ⟨z, its, r, ob, e, c⟩ := x; exact ⟨z, its, r, ob, k _ _ (.inl rfl) e, c⟩
  | dK kvs => obtain ⟨z, y, vs, r, ob, es, ep, e, c⟩ := x; exact ⟨z, y, vs, r, ob, es, ep, k _ _ (.inl rfl) e, c⟩
  | dT kvs =>
    obtain ⟨z, y, xs, r, ob, es, ep, e, c⟩ := x
    exact ⟨z, y, xs, Paired.mapP r fun p q z => ⟨z.1, ht _ _ z.2.1, z.2.2⟩, ob, es, ep, k _ _ (.inl rfl) e, c⟩
  | set S n => obtain ⟨ob, es, ep, t, e, c⟩ := x; exact ⟨ob, es, ep, t, k _ _ (.inl rfl) e, c⟩
  | ins C dx fs =>
    obtain ⟨d, z, ne, e, mA, ⟨od, es, ep, e2, c⟩, r⟩ := x
    exact ⟨ho _ d, z, ne, k _ _ (.inl rfl) e, mA, ⟨od, es, ep, k _ _ (.inr d) e2, c⟩, r⟩
  | own y => obtain ⟨ob, e⟩ := x; exact ⟨ob, k _ _ (.inl rfl) e⟩
  | xd fs => obtain ⟨mA, ⟨od, es, ep, e, c⟩, r⟩ := x; exact ⟨mA, ⟨od, es, ep, k _ _ (.inl rfl) e, c⟩, r⟩
  | rng lo hi => obtain ⟨t, u, v, e⟩ := x; exact ⟨t, u, v, k _ _ (.inl rfl) e⟩
  | frz ob u ih => obtain ⟨e, q⟩ := x; exact ⟨k _ _ (.inl rfl) e, ih q⟩
  | tbl ps =>
    have e : h.get? a = some { cls := .none, data := .fields ps } := x
    show h'.get? a = some { cls := .none, data := .fields ps }
    exact k a _ (.inl rfl) e
  | met f y =>
    have e : h.get? a = some (PySem.W.methodObj (.ref f) (.ref y)) := x
    show h'.get? a = some (PySem.W.methodObj (.ref f) (.ref y))
    exact k a _ (.inl rfl) e
  | ext φ => obtain ⟨p, ⟨o, e⟩, st⟩ := x; exact ⟨st _ _ p fun o q => k _ _ (.inl rfl) q, ⟨o, k _ _ (.inl rfl) e⟩, st⟩
theorem HOk.lt (x : HOk P w H h) (e : H a = some o) : a < h.objs.size := (x a o e).lt
theorem HOk.fresh (x : HOk P w H h) (e : h.objs.size <= a) : H a = none := by
  cases q : H a with
  | none => rfl
  | some u => exact absurd (Nat.lt_of_lt_of_le (x.lt q) e) (Nat.lt_irrefl _)
theorem HOk.kept (x : HOk P w H h) (k : ∀ b u, h.get? b = some u -> h'.get? b = some u) : HOk P w H h' := fun a o e =>
  (x a o e).stay (fun b u _ q => k b u q) (fun _ q => q) fun _ _ q => q
theorem HOk.laid (x : HOk P w H h) (k : ∀ b u, h.get? b = some u -> h'.get? b = some u) (hp : h.objs.size <= a) (new : yed P w (upd H a o) h' a o) : HOk P w (upd H a o) h' := fun b u e => by
  have hn := x.fresh hp
  by_cases hb : b = a
  · subst hb; rw [upd_same] at e; cases e; exact new
  · rw [upd_ne hb] at e
    exact (x b u e).stay (fun c v _ q => k c v q) (fun c q => by rw [upd_ne (ziz q hn)]; exact q) fun c xs q => by rw [upd_ne (ziz q hn)]; exact q
end
def Rd (H : Hp) (a : Addr) (u : HO) : Prop := H a = some u \/ ∃ o, H a = some (.frz o u)
theorem Rd.of {H : Hp} {a : Addr} {u : HO} (h : H a = some u) : Rd H a u := .inl h
theorem Rd.ok {P : Program} {w : World} {H : Hp} {h : Heap} {a : Addr} {u : HO} (r : Rd H a u) (x : HOk P w H h) : yed P w H h a u := by
  rcases r with r | ⟨o, r⟩
  · exact x a u r
  · obtain ⟨_, q⟩ := x a _ r
    exact q
def Mut : Option HO -> Prop
  | some (.lst _) => True
  | some (.dK _) => True
  | some (.dT _) => True
  | some (.set _ _) => True
  | some (.ins _ _ _) => True
  | some (.ext _) => True
  | _ => False
section
variable {P : Program} {w : World} {H : Hp} {h h' : Heap} {x e : Addr} {o' : HO}
theorem HOk.write (ok : HOk P w H h) (mu : Mut (H x)) (he : e = x \/ H e = some (.own x)) (k : ∀ b u, b ≠ e -> h.get? b = some u -> h'.get? b = some u) (heo : ∃ u, h'.get? e = some u)
    (new : yed P w (upd H x o') h' x o') : HOk P w (upd H x o') h' := fun b u q => by
  have nown : ∀ c y, H c = some (.own y) -> c ≠ x := fun c y r z => by subst z; rw [r] at mu; exact mu
  have ntup : ∀ c xs, H c = some (.tup xs) -> c ≠ x := fun c xs r z => by subst z; rw [r] at mu; exact mu
  by_cases hb : b = x
  · subst hb; rw [upd_same] at q; cases q; exact new
  · rw [upd_ne hb] at q
    by_cases hbe : b = e
    · have q' : H b = some (.own x) := by
        rcases he with z | z
        · exact absurd (hbe.trans z) hb
        · rw [hbe]; exact z
      rw [q] at q'; cases q'
      obtain ⟨v, hv⟩ := heo
      exact ⟨v, by rw [hbe]; exact hv⟩
    · refine (ok b u q).stay (fun c v hc r => k c v ?_ r) (fun c r => by rw [upd_ne (nown c b r)]; exact r) fun c xs r => by rw [upd_ne (ntup c xs r)]; exact r
      rcases hc with rfl | hc
      · exact hbe
      · rintro rfl
        rcases he with z | z
        · exact nown c b hc z
        · rw [hc] at z; cases z; exact hb rfl
end
structure Un (fs ex : List Addr) (H H' : Hp) (h h' : Heap) : Prop where
  keep : ∀ b o, h.get? b = some o -> H b = none -> b ∉ fs -> b ∉ ex -> h'.get? b = some o
  slot : ∀ b o, h.get? b = some o -> H b = none -> b ∈ fs -> b ∉ ex -> ∃ sl, h'.get? b = some { o with slots := sl }
  free : ∀ b o, h.get? b = some o -> H b = none -> b ∉ ex -> H' b = none
  there : ∀ b o, h.get? b = some o -> b ∉ ex -> ∃ o', h'.get? b = some o'
  tups : ∀ b xs, H b = some (.tup xs) -> H' b = some (.tup xs)
  frzs : ∀ b o u, H b = some (.frz o u) -> H' b = some (.frz o u)
  tbls : ∀ b ps, H b = some (.tbl ps) -> ∃ more, H' b = some (.tbl (ps ++ more))
section
variable {fs fs' ex ex' : List Addr} {H H1 H2 : Hp} {h h1 h2 h' : Heap} {a x e : Addr} {o : HO}
theorem Un.any (u : Un fs ex H H1 h h1) {b : Addr} {ob : Obj} (q : h.get? b = some ob) (n : H b = none) (hx : b ∉ ex) : ∃ sl, h1.get? b = some { ob with slots := sl } := by
  by_cases hb : b ∈ fs
  · exact u.slot b ob q n hb hx
  · exact ⟨ob.slots, u.keep b ob q n hb hx⟩
theorem Un.trans (a : Un fs ex H H1 h h1) (b : Un fs ex H1 H2 h1 h2) : Un fs ex H H2 h h2 where
  keep := fun c ob q n hc hx => b.keep c ob (a.keep c ob q n hc hx) (a.free c ob q n hx) hc hx
  slot := fun c ob q n hc hx => by
    obtain ⟨sl, e1⟩ := a.slot c ob q n hc hx
    obtain ⟨sl', e2⟩ := b.slot c _ e1 (a.free c ob q n hx) hc hx
    exact ⟨sl', e2⟩
  free := fun c ob q n hx => by
    obtain ⟨o', e1⟩ := a.there c ob q hx
    exact b.free c o' e1 (a.free c ob q n hx) hx
  there := fun c ob q hx => by
    obtain ⟨o', e1⟩ := a.there c ob q hx
    exact b.there c o' e1 hx
  tups := fun c xs q => b.tups c xs (a.tups c xs q)
  frzs := fun c ob xs q => b.frzs c ob xs (a.frzs c ob xs q)
  tbls := fun c ps q => by
    obtain ⟨m1, e1⟩ := a.tbls c ps q
    obtain ⟨m2, e2⟩ := b.tbls c _ e1
    exact ⟨m1 ++ m2, by rw [e2, Array.append_assoc]⟩
theorem Un.kept (k : ∀ b u, h.get? b = some u -> h'.get? b = some u) : Un fs ex H H h h' :=
  ⟨fun b ob q _ _ _ => k b ob q, fun b ob q _ _ _ => ⟨ob.slots, k b ob q⟩, fun _ _ _ n _ => n, fun b ob q _ => ⟨ob, k b ob q⟩, fun _ _ q => q, fun _ _ _ q => q, fun _ ps q => ⟨#[], by rw [q]; simp⟩⟩
theorem Un.refl : Un fs ex H H h h := Un.kept fun _ _ q => q
theorem Un.laid (k : ∀ b u, h.get? b = some u -> h'.get? b = some u) (hp : h.objs.size <= a) (hn : H a = none) : Un fs ex H (upd H a o) h h' where
  keep := fun b u q _ _ _ => k b u q
  slot := fun b u q _ _ _ => ⟨u.slots, k b u q⟩
  free := fun b u q n _ => by rw [upd_ne (Nat.ne_of_lt (Nat.lt_of_lt_of_le (Heap.lt_size q) hp))]; exact n
  there := fun b u q _ => ⟨u, k b u q⟩
  tups := fun b xs q => by rw [upd_ne (ziz q hn)]; exact q
  frzs := fun b u xs q => by rw [upd_ne (ziz q hn)]; exact q
  tbls := fun b ps q => ⟨#[], by rw [upd_ne (ziz q hn), q]; simp⟩
theorem Un.write (mu : Mut (H x)) (he : e = x \/ H e = some (.own x)) (k : ∀ b u, b ≠ e -> h.get? b = some u -> h'.get? b = some u) (heo : ∃ u, h'.get? e = some u) : Un fs ex H (upd H x o) h h' := by
  have hx : ∀ b, H b = none -> b ≠ x := fun b n z => by subst z; rw [n] at mu; exact mu
  have hb : ∀ b, H b = none -> b ≠ e := fun b n z => by
    subst z
    rcases he with r | r
    · exact hx b n r
    · rw [n] at r; cases r
  have hm : ∀ b u, H b = some u -> ¬ Mut (some u) -> b ≠ x := fun b u q nm z => by subst z; rw [q] at mu; exact nm mu
  refine ⟨fun b u q n _ _ => k b u (hb b n) q, fun b u q n _ _ => ⟨u.slots, k b u (hb b n) q⟩, fun b u q n _ => by rw [upd_ne (hx b n)]; exact n, fun b u q _ => ?_,
    fun b xs q => by rw [upd_ne (hm b _ q fun z => z)]; exact q, fun b u xs q => by rw [upd_ne (hm b _ q fun z => z)]; exact q, fun b ps q => ⟨#[], by rw [upd_ne (hm b _ q fun z => z), q]; simp⟩⟩
  by_cases hbe : b = e
  · subst hbe; exact heo
  · exact ⟨u, k b u hbe q⟩
theorem Un.mono (u : Un fs ex H H1 h h1) (hs : ∀ b ∈ fs, b ∈ fs') (hx : ∀ b ∈ ex, b ∈ ex') : Un fs' ex' H H1 h h1 :=
  ⟨fun b ob q n hb he => u.keep b ob q n (fun z => hb (hs b z)) fun z => he (hx b z), fun _ _ q n _ he => u.any q n fun z => he (hx _ z), fun b ob q n he => u.free b ob q n fun z => he (hx b z), fun b ob q he => u.there b ob q fun z => he (hx b z), u.tups, u.frzs, u.tbls⟩
end
def trk (h : Heap) (H : Hp) : List Addr := (List.range h.objs.size).filter fun a => (H a).isSome
def yii (h : Heap) (H : Hp) : Heap := PySem.W.hideAll h (trk h H)
theorem zk7 (h : Heap) (H : Hp) : (yii h H).objs.size = h.objs.size := PySem.W.hideAll_size _ _
theorem zo4 {h : Heap} {H : Hp} {b : Addr} {o : Obj} (e : h.get? b = some o) (n : H b = none) : (yii h H).get? b = some o :=
  PySem.W.hideAll_get _ e fun hm => by
    have q : (H b).isSome = true := (List.mem_filter.mp hm).2
    rw [n] at q; simp at q
theorem zv0 {h : Heap} {H : Hp} {b : Addr} {o : Obj} (e : (yii h H).get? b = some o) : h.get? b = some o /\ H b = none := by
  have e' : h.get? b = some o := PySem.W.of_hideAll (trk h H) e
  refine ⟨e', ?_⟩
  cases q : H b with
  | none => rfl
  | some x =>
    have hm : b ∈ trk h H := List.mem_filter.mpr ⟨List.mem_range.mpr (Heap.lt_size e'), by simp [q]⟩
    have z : (yii h H).get? b = none := PySem.W.hideAll_none (trk h H) hm
    rw [z] at e; cases e
def zr2 (g h : Heap) (L : Addr) : List (Addr × Obj) := (List.range h.objs.size).filterMap fun a => if a = L \/ (g.get? a).isSome = true then none else (h.get? a).map fun o => (a, o)
def yjg (g h : Heap) (L d : Addr) : List (Addr × Obj) := (zr2 g h L).filter fun p => decide (p.1 ≠ d)
end L2
namespace L2
open PySem PySem.Spec PyProof.Rows
structure Mod (K : PySem.W.Frag) (mg : Str -> Option Value) (base : Heap) : Prop where
  kin : K.In base
  glob : base.Ns mainGlobals mg
  blt : ∃ mb, base.Ns builtinsNs mb /\ ∀ x : Str, x ≠ "__name__" -> mb x = bootBuiltins x
  nolimit : base.NoLimit
structure Cx where
  prog : Program
  w : World
  K : PySem.W.Frag
  mg : Str -> Option Value
  base : Heap
  A : Around
  N : List Str
  s₀ : Shared
  H₀ : Hp
  env : Env
  outer : List Env
  stack : List Env
  ex : List Addr
  fn : Str -> Bool
  calm : Bool
  pn : List (Addr × Obj)
  xe : Value -> Shared -> Prop
def frs (l : List Env) : List Addr := l.filterMap (·.frame)
abbrev Cx.fs (X : Cx) : List Addr := frs X.outer
def Vis (sc : Scope) (x : Str) : Prop := sc.names.lookup x = some .local \/ sc.names.lookup x = some .cell \/ sc.names.lookup x = some .free
def Loc (sc : Scope) (x : Str) : Prop := sc.names.lookup x = some .local \/ sc.names.lookup x = some .cell
def Look (env : Env) (h : Heap) (m : Str -> Option Value) (x : Str) (u : Value) : Prop :=
  (env.kindOf x = some .local /\ m x = some u) \/ ((env.kindOf x = some .cell \/ env.kindOf x = some .free) /\ ∃ c, env.cells.lookup x = some c /\ h.IsCell c (some u))
structure Cx.Ok (X : Cx) : Prop where
  mod : Mod X.K X.mg X.base
  kind : X.env.scope.kind = .function
  glob : X.env.globals = mainGlobals
  blt : X.env.builtins = builtinsNs
  above : X.s₀.heap.objs.size <= X.env.locals
  inj : ∀ x y c, X.env.cells.lookup x = some c -> X.env.cells.lookup y = some c -> x = y
  has : ∀ x, (X.env.kindOf x = some .cell \/ X.env.kindOf x = some .free) -> ∃ c, X.env.cells.lookup x = some c
  cab : ∀ x c, X.fn x = true -> X.env.cells.lookup x = some c -> X.s₀.heap.objs.size <= c
  hd : X.calm = true -> X.A.handled = none
  frames : X.A.frames = some X.stack
  stk : X.stack = X.outer \/ (X.stack = X.env :: X.outer /\ X.env.frame = some X.env.locals)
  exf : ∀ b ∈ X.ex, b ≠ X.env.locals /\ ∀ x c, X.env.cells.lookup x = some c -> c ≠ b
  bs : ∀ b o, X.base.get? b = some o -> X.s₀.heap.get? b = some o /\ X.H₀ b = none
  bsz : X.base.objs.size <= X.s₀.heap.objs.size
  noex : ∀ b o, X.base.get? b = some o -> b ∉ X.ex
  exfs : ∀ b ∈ X.ex, b ∉ X.fs
  funs : X.s₀.heap.FunFrames X.base X.outer
  frf : ∀ b ∈ X.fs, X.H₀ b = none
structure Inv (X : Cx) (pins : List (Addr × Obj)) (σ : List (Option V)) (H : Hp) (s : Shared) : Prop where
  ok : X.Ok
  os : s.os = X.s₀.os
  bare : AllBare s.gens
  base : Un X.fs X.ex X.H₀ H X.s₀.heap s.heap
  loc : ∃ m, s.heap.Ns X.env.locals m /\ ∀ (i : Nat) (x : Str) (v : V), X.N[i]? = some x -> σ[i]? = some (some v) -> Vis X.env.scope x -> ∃ u, yhr v u /\ Look X.env s.heap m x u
  cell : ∀ x c, X.env.cells.lookup x = some c -> ∃ v, s.heap.IsCell c v
  free : H X.env.locals = none
  freeC : ∀ x c, X.env.cells.lookup x = some c -> H c = none
  pin : ∀ p ∈ X.pn ++ pins, s.heap.get? p.1 = some p.2 /\ H p.1 = none /\ p.1 ≠ X.env.locals /\ p.1 ∉ X.fs /\ ∀ v, p.2.data ≠ .cell v
  hok : HOk X.prog X.w H s.heap
  len : σ.length = X.N.length
section
variable {X : Cx} {pins : List (Addr × Obj)} {σ : List (Option V)} {H H' : Hp} {s : Shared} {h' : Heap}
theorem Cx.Ok.nofr (ok : X.Ok) {b : Addr} {o : Obj} (e : X.base.get? b = some o) : b ∉ X.fs := fun hb => by
  have := (ok.funs.mem hb).1
  rw [e] at this; cases this
theorem Inv.bs (I : Inv X pins σ H s) : ∀ b o, X.base.get? b = some o -> s.heap.get? b = some o /\ H b = none := fun b o e =>
  ⟨I.base.keep b o (I.ok.bs b o e).1 (I.ok.bs b o e).2 (I.ok.nofr e) (I.ok.noex b o e), I.base.free b o (I.ok.bs b o e).1 (I.ok.bs b o e).2 (I.ok.noex b o e)⟩
theorem Inv.bk (I : Inv X pins σ H s) : ∀ b o, X.base.get? b = some o -> s.heap.get? b = some o := fun b o e => (I.bs b o e).1
theorem Inv.mod (I : Inv X pins σ H s) : Mod X.K X.mg X.base := I.ok.mod
theorem Inv.kIn (I : Inv X pins σ H s) : X.K.In s.heap := I.ok.mod.kin.keeps I.bk
theorem Inv.nolimit (I : Inv X pins σ H s) : s.heap.NoLimit := I.ok.mod.nolimit.keeps I.bk
theorem Inv.lt (I : Inv X pins σ H s) : X.env.locals < s.heap.objs.size := let ⟨_, hn, _⟩ := I.loc; hn.lt
theorem Inv.sz (I : Inv X pins σ H s) : X.s₀.heap.objs.size <= s.heap.objs.size := Nat.le_trans I.ok.above (Nat.le_of_lt I.lt)
theorem Inv.nofs (I : Inv X pins σ H s) {a : Addr} (h : s.heap.objs.size <= a) : a ∉ X.fs := fun hb => by
  obtain ⟨_, o, ho, _⟩ := I.ok.funs.mem hb
  exact absurd (Nat.lt_of_lt_of_le (Heap.lt_size ho) (Nat.le_trans I.sz h)) (Nat.lt_irrefl _)
theorem Inv.cne (I : Inv X pins σ H s) : ∀ x c, X.env.cells.lookup x = some c -> c ≠ X.env.locals := fun x c e z => by
  obtain ⟨v, o, ho, hd⟩ := I.cell x c e
  obtain ⟨m, ⟨o', es, ep, ho', hd', _⟩, _⟩ := I.loc
  rw [z, ho'] at ho; cases ho; rw [hd'] at hd; cases hd
theorem Inv.funs (I : Inv X pins σ H s) : s.heap.FunFrames X.base X.outer := by
  have all : ∀ (l : List Env), (∀ b ∈ frs l, b ∈ X.fs) -> X.s₀.heap.FunFrames X.base l -> s.heap.FunFrames X.base l := by
    intro l
    induction l with
    | nil => intro _ _; trivial
    | cons env r ih =>
      intro hs hl
      obtain ⟨hk, ⟨L, o, hf, hn, ho, hd⟩, hr⟩ := hl
      have hL : L ∈ X.fs := hs L (by unfold frs; rw [List.filterMap_cons, hf]; exact List.mem_cons_self)
      obtain ⟨sl, e⟩ := I.base.slot L o ho (I.ok.frf L hL) hL fun z => I.ok.exfs L z hL
      exact ⟨hk, ⟨L, _, hf, hn, e, hd⟩, ih (fun b hb => hs b (by unfold frs; rw [List.filterMap_cons, hf]; exact List.mem_cons_of_mem _ hb)) hr⟩
  exact all X.outer (fun _ hb => hb) I.ok.funs
theorem Inv.stack (I : Inv X pins σ H s) : s.heap.FunFrames X.base X.stack := by
  rcases I.ok.stk with e | ⟨e, hf⟩
  · rw [e]; exact I.funs
  · rw [e]
    obtain ⟨m, hn, _⟩ := I.loc
    refine .cons (by rw [I.ok.kind]; decide) hf hn ?_ I.funs
    exact Heap.get?_none_of_le (Nat.le_trans I.ok.bsz I.ok.above)
theorem Inv.stkSub (I : Inv X pins σ H s) : ∀ b ∈ frs X.stack, b ∈ X.env.locals :: X.fs := fun b hb => by
  rcases I.ok.stk with e | ⟨e, hf⟩
  · rw [e] at hb; exact List.mem_cons_of_mem _ hb
  · rw [e] at hb
    unfold frs at hb
    rw [List.filterMap_cons, hf] at hb
    exact hb
theorem Inv.stkFree (I : Inv X pins σ H s) : ∀ b ∈ frs X.stack, H b = none := fun b hb => by
  rcases List.mem_cons.mp (I.stkSub b hb) with e | hb
  · rw [e]; exact I.free
  · obtain ⟨_, o, ho, _⟩ := I.ok.funs.mem hb
    exact I.base.free b o ho (I.ok.frf b hb) fun z => I.ok.exfs b z hb
theorem Inv.step {g' : Array GenState} {t' : Nat} {d' : Drawn} {ch : List Addr} (I : Inv X pins σ H s)
    (hch : ∀ b ∈ ch, (b ∈ X.ex \/ X.s₀.heap.objs.size <= b) /\ b ≠ X.env.locals /\ (∀ x c, X.env.cells.lookup x = some c -> c ≠ b) /\ ∀ p ∈ X.pn ++ pins, p.1 ≠ b)
    (keep : ∀ b o, b ≠ X.env.locals -> b ∉ X.fs -> b ∉ ch -> s.heap.get? b = some o -> H b = none -> h'.get? b = some o)
    (slot : ∀ b o, b ≠ X.env.locals -> b ∈ X.fs -> b ∉ ch -> s.heap.get? b = some o -> H b = none -> ∃ sl, h'.get? b = some { o with slots := sl }) (free : ∀ b o, b ∉ ch -> s.heap.get? b = some o -> H b = none -> H' b = none)
    (there : ∀ b o, b ∉ ch -> s.heap.get? b = some o -> ∃ o', h'.get? b = some o')
    (tups : ∀ b xs, H b = some (.tup xs) -> H' b = some (.tup xs)) (frzs : ∀ b o u, H b = some (.frz o u) -> H' b = some (.frz o u)) (tbls : ∀ b ps, H b = some (.tbl ps) -> ∃ more, H' b = some (.tbl (ps ++ more)))
    (ns : ∀ m, s.heap.Ns X.env.locals m -> h'.Ns X.env.locals m) (hok : HOk X.prog X.w H' h') (hg : AllBare g') :
    Inv X pins σ H' { s with heap := h', gens := g', drawn := d', toks := t' } := by
  have neL : ∀ b o, X.s₀.heap.get? b = some o -> b ≠ X.env.locals := fun b o e => Nat.ne_of_lt (Nat.lt_of_lt_of_le (Heap.lt_size e) I.ok.above)
  have neC : ∀ b o, X.s₀.heap.get? b = some o -> b ∉ X.ex -> b ∉ ch := fun b o e hx hb => by
    rcases (hch b hb).1 with z | z
    · exact hx z
    · exact absurd (Nat.lt_of_lt_of_le (Heap.lt_size e) z) (Nat.lt_irrefl _)
  have cellK : ∀ x c, X.env.cells.lookup x = some c -> ∀ v, s.heap.IsCell c v -> h'.IsCell c v := fun x c e v ⟨o, ho, hd⟩ => by
    have nch : c ∉ ch := fun z => (hch c z).2.2.1 x c e rfl
    by_cases hc : c ∈ X.fs
    · obtain ⟨sl, q⟩ := slot c o (I.cne x c e) hc nch ho (I.freeC x c e)
      exact ⟨_, q, hd⟩
    · exact ⟨o, keep c o (I.cne x c e) hc nch ho (I.freeC x c e), hd⟩
  refine ⟨I.ok, I.os, hg, ⟨fun b o e n hb hx => ?_, fun b o e n hb hx => ?_, fun b o e n hx => ?_, fun b o e hx => ?_, fun b xs e => tups b xs (I.base.tups b xs e), fun b o xs e => frzs b o xs (I.base.frzs b o xs e), fun b ps e => ?_⟩, ?_, fun x c e => ?_, ?_, fun x c e => ?_, fun p hp => ?_, hok, I.len⟩
  · exact keep b o (neL b o e) hb (neC b o e hx) (I.base.keep b o e n hb hx) (I.base.free b o e n hx)
  · obtain ⟨sl, e1⟩ := I.base.slot b o e n hb hx
    obtain ⟨sl', e2⟩ := slot b _ (neL b o e) hb (neC b o e hx) e1 (I.base.free b o e n hx)
    exact ⟨sl', e2⟩
  · obtain ⟨o', e1⟩ := I.base.there b o e hx
    exact free b o' (neC b o e hx) e1 (I.base.free b o e n hx)
  · obtain ⟨o', e1⟩ := I.base.there b o e hx
    exact there b o' (neC b o e hx) e1
  · obtain ⟨m1, e1⟩ := I.base.tbls b ps e
    obtain ⟨m2, e2⟩ := tbls b _ e1
    exact ⟨m1 ++ m2, by rw [e2, Array.append_assoc]⟩
  · obtain ⟨m, hn, hl⟩ := I.loc
    refine ⟨m, ns m hn, fun i x v e1 e2 e3 => ?_⟩
    obtain ⟨u, r, l⟩ := hl i x v e1 e2 e3
    refine ⟨u, r, ?_⟩
    rcases l with l | ⟨k, c, e, z⟩
    · exact .inl l
    · exact .inr ⟨k, c, e, cellK x c e _ z⟩
  · obtain ⟨v, z⟩ := I.cell x c e
    exact ⟨v, cellK x c e v z⟩
  · obtain ⟨m, ⟨o, _, _, ho, _⟩, _⟩ := I.loc
    exact free _ o (fun z => (hch _ z).2.1 rfl) ho I.free
  · obtain ⟨v, o, ho, hd⟩ := I.cell x c e
    exact free c o (fun z => (hch c z).2.2.1 x c e rfl) ho (I.freeC x c e)
  · obtain ⟨e, n, ne, nf, d⟩ := I.pin p hp
    have nch : p.1 ∉ ch := fun z => (hch p.1 z).2.2.2 p hp rfl
    exact ⟨keep p.1 p.2 ne nf nch e n, free p.1 p.2 nch e n, ne, nf, d⟩
theorem Inv.un {t' : Nat} (I : Inv X pins σ H s) (u : Un X.fs [] H H' s.heap h') (hok : HOk X.prog X.w H' h') : Inv X pins σ H' { s with heap := h', toks := t' } := by
  obtain ⟨m, ⟨o, es, ep, ho, r⟩, _⟩ := id I.loc
  obtain ⟨sl, hL⟩ := u.any ho I.free (by simp)
  exact I.step (g' := s.gens) (d' := s.drawn) (ch := []) (fun _ z => nomatch z) (fun b o _ hb _ e n => u.keep b o e n hb (by simp)) (fun b o _ hb _ e n => u.slot b o e n hb (by simp)) (fun b o _ e n => u.free b o e n (by simp)) (fun b o _ e => u.there b o e (by simp)) u.tups u.frzs u.tbls (fun m' hm => by
    obtain ⟨o', es', ep', ho', r'⟩ := hm
    rw [ho] at ho'; cases ho'
    exact ⟨_, es', ep', hL, r'⟩) hok I.bare
theorem Inv.call {g' : Array GenState} {t' : Nat} {d' : Drawn} {ch : List Addr} (I : Inv X pins σ H s) (u : Un (frs X.stack) ch H H' s.heap h') (hok : HOk X.prog X.w H' h') (hg : AllBare g')
    (hch : ∀ b ∈ ch, (b ∈ X.ex \/ X.s₀.heap.objs.size <= b) /\ b ≠ X.env.locals /\ (∀ x c, X.env.cells.lookup x = some c -> c ≠ b) /\ ∀ p ∈ X.pn ++ pins, p.1 ≠ b) :
    Inv X pins σ H' { s with heap := h', gens := g', drawn := d', toks := t' } := by
  obtain ⟨m, ⟨o, es, ep, ho, r⟩, _⟩ := id I.loc
  obtain ⟨sl, hL⟩ := u.any ho I.free fun z => (hch _ z).2.1 rfl
  exact I.step (ch := ch) hch (fun b o hL hb hc e n => u.keep b o e n (fun z => (List.mem_cons.mp (I.stkSub b z)).elim hL hb) hc) (fun b o _ _ hc e n => u.any e n hc) (fun b o hc e n => u.free b o e n hc) (fun b o hc e => u.there b o e hc) u.tups u.frzs u.tbls (fun m' hm => by
    obtain ⟨o', es', ep', ho', r'⟩ := hm
    rw [ho] at ho'; cases ho'
    exact ⟨_, es', ep', hL, r'⟩) hok hg
theorem Inv.turned {t' : Nat} {it : Addr} (I : Inv X pins σ H s) (k : ∀ b o, b ≠ it -> s.heap.get? b = some o -> h'.get? b = some o) (hn : H it = none) (hL : it ≠ X.env.locals)
    (h1 : it ∈ X.ex \/ X.s₀.heap.objs.size <= it) (h2 : ∀ x c, X.env.cells.lookup x = some c -> c ≠ it) (h3 : ∀ p ∈ X.pn ++ pins, p.1 ≠ it) : Inv X pins σ H { s with heap := h', toks := t' } := by
  have nit : ∀ b u, H b = some u -> b ≠ it := fun b u e z => by rw [z, hn] at e; cases e
  refine I.step (g' := s.gens) (d' := s.drawn) (ch := [it]) (fun b hb => ?_) (fun b o _ _ hc e _ => k b o (fun z => hc (by simp [z])) e) (fun b o _ _ hc e _ => ⟨o.slots, k b o (fun z => hc (by simp [z])) e⟩) (fun _ _ _ _ n => n)
    (fun b o hc e => ⟨o, k b o (fun z => hc (by simp [z])) e⟩) (fun _ _ e => e) (fun _ _ _ e => e) (fun b ps e => ⟨#[], by rw [e]; simp⟩) (fun m hm => ?_) (fun b u e => ?_) I.bare
  · have e : b = it := by simpa using hb
    subst e
    exact ⟨h1, hL, h2, h3⟩
  · obtain ⟨o, es, ep, ho, r⟩ := hm
    exact ⟨o, es, ep, k _ o (Ne.symm hL) ho, r⟩
  · refine (I.hok b u e).stay (fun c v hc q => k c v ?_ q) (fun _ q => q) fun _ _ q => q
    rcases hc with z | z
    · rw [z]; exact nit b u e
    · exact nit c _ z
theorem Inv.tok (I : Inv X pins σ H s) (t : Nat) : Inv X pins σ H { s with toks := t } := I.un (h' := s.heap) (t' := t) Un.refl I.hok
theorem Inv.kept {t' : Nat} (I : Inv X pins σ H s) (k : ∀ b u, s.heap.get? b = some u -> h'.get? b = some u) : Inv X pins σ H { s with heap := h', toks := t' } := I.un (Un.kept k) (I.hok.kept k)
theorem Inv.laid {a : Addr} {o : HO} {t' : Nat} (I : Inv X pins σ H s) (k : ∀ b u, s.heap.get? b = some u -> h'.get? b = some u) (hp : s.heap.objs.size <= a) (new : yed X.prog X.w (upd H a o) h' a o) :
    Inv X pins σ (upd H a o) { s with heap := h', toks := t' } := I.un (Un.laid k hp (I.hok.fresh hp)) (I.hok.laid k hp new)
theorem Inv.write {x e : Addr} {o : HO} {t' : Nat} (I : Inv X pins σ H s) (mu : Mut (H x)) (he : e = x \/ H e = some (.own x)) (k : ∀ b u, b ≠ e -> s.heap.get? b = some u -> h'.get? b = some u) (heo : ∃ u, h'.get? e = some u)
    (new : yed X.prog X.w (upd H x o) h' x o) : Inv X pins σ (upd H x o) { s with heap := h', toks := t' } := I.un (Un.write mu he k heo) (I.hok.write mu he k heo new)
theorem Inv.pins_of {pins' : List (Addr × Obj)} (I : Inv X pins σ H s) (h : ∀ p ∈ pins', s.heap.get? p.1 = some p.2 /\ H p.1 = none /\ p.1 ≠ X.env.locals /\ p.1 ∉ X.fs /\ ∀ v, p.2.data ≠ .cell v) : Inv X pins' σ H s :=
  ⟨I.ok, I.os, I.bare, I.base, I.loc, I.cell, I.free, I.freeC, fun p hp => (List.mem_append.mp hp).elim (fun z => I.pin p (List.mem_append_left _ z)) (h p), I.hok, I.len⟩
theorem zpx {N : List Str} (hN : N.Nodup) {i j : Nat} {x : Str} (a : N[i]? = some x) (b : N[j]? = some x) : i = j := by
  obtain ⟨h1, e1⟩ := List.getElem?_eq_some_iff.mp a
  obtain ⟨h2, e2⟩ := List.getElem?_eq_some_iff.mp b
  exact (List.getElem_inj hN).mp (e1.trans e2.symm)
theorem zm1 {M : Model} {A : Around} {E : Value -> Shared -> Prop} {i : Nat} {x : Str} {v : V} {u : Value} {Q : Unit -> Shared -> Prop} (I : Inv X pins σ H s) (hN : X.N.Nodup) (hi : X.N[i]? = some x) (hx : Loc X.env.scope x) (r : yhr v u)
    (h : ∀ s', Inv X pins (σ.set i (some v)) H s' -> (∃ a, Heap.SameBut a s.heap s'.heap /\ (a = X.env.locals \/ X.env.cells.lookup x = some a)) -> Q () s') (hf : X.fn x = true \/ X.env.scope.names.lookup x = some .local := by first | exact .inl rfl | exact .inr rfl | assumption) : wpAny M A (storeName X.env x u) Q E s := by
  obtain ⟨m, hn, hl⟩ := id I.loc
  have hcls : (X.env.scope.kind == .class || (X.env.scope.kind == .module && X.env.locals != X.env.globals)) = false := by rw [I.ok.kind]; rfl
  have hiσ : i < σ.length := by rw [I.len]; exact (List.getElem?_eq_some_iff.mp hi).1
  have cne := I.cne
  have tracked : ∀ {a : Addr} {h' : Heap}, (∃ o, s.heap.get? a = some o /\ H a = none) -> Heap.SameBut a s.heap h' -> HOk X.prog X.w H h' := fun {a h'} ha hs b ob e => by
    obtain ⟨_, _, hfree⟩ := ha
    refine (I.hok b ob e).stay (fun c w' hc q => (hs.2 c ?_).trans q) (fun _ q => q) fun _ _ q => q
    rintro rfl
    rcases hc with rfl | hc
    · rw [hfree] at e; cases e
    · rw [hfree] at hc; cases hc
  rcases hx with hk | hk
  · refine wpAny_storeName_local hk hn (fun h' hn' hs => ?_) hcls
    obtain ⟨oL, _, _, hoL, _⟩ := id hn
    refine h _ ⟨I.ok, I.os, I.bare, ⟨fun b o e n hb hx => ?_, fun b o e n hb hx => ?_, I.base.free, fun b o e hx => ?_, I.base.tups, I.base.frzs, I.base.tbls⟩, ⟨_, hn', fun j y v' e1 e2 e3 => ?_⟩, fun y c e => ?_, I.free, I.freeC, fun p hp => ?_, tracked ⟨oL, hoL, I.free⟩ hs, by simpa using I.len⟩ ⟨_, hs, .inl rfl⟩
    · exact (hs.2 b (Nat.ne_of_lt (Nat.lt_of_lt_of_le (Heap.lt_size e) I.ok.above))).trans (I.base.keep b o e n hb hx)
    · obtain ⟨sl, e1⟩ := I.base.slot b o e n hb hx
      exact ⟨sl, (hs.2 b (Nat.ne_of_lt (Nat.lt_of_lt_of_le (Heap.lt_size e) I.ok.above))).trans e1⟩
    · obtain ⟨o', e1⟩ := I.base.there b o e hx
      exact ⟨o', (hs.2 b (Nat.ne_of_lt (Nat.lt_of_lt_of_le (Heap.lt_size e) I.ok.above))).trans e1⟩
    · by_cases hj : j = i
      · subst hj
        rw [hi] at e1; cases e1
        rw [List.getElem?_set_self hiσ] at e2
        cases e2
        exact ⟨u, r, .inl ⟨hk, by simp⟩⟩
      · rw [List.getElem?_set_ne (Ne.symm hj)] at e2
        obtain ⟨u', r', q⟩ := hl j y v' e1 e2 e3
        refine ⟨u', r', ?_⟩
        rcases q with ⟨k, e⟩ | ⟨k, c, e, z⟩
        · refine .inl ⟨k, ?_⟩
          have : y ≠ x := fun e => hj (zpx hN e1 (e ▸ hi))
          simp [this, e]
        · exact .inr ⟨k, c, e, z.sameBut hs (cne y c e)⟩
    · obtain ⟨w', z⟩ := I.cell y c e
      exact ⟨w', z.sameBut hs (cne y c e)⟩
    · obtain ⟨e, n, ne, nf, d⟩ := I.pin p hp
      exact ⟨(hs.2 p.1 ne).trans e, n, ne, nf, d⟩
  · have hfn : X.fn x = true := by
      rcases hf with z | z
      · exact z
      · rw [z] at hk; cases hk
    obtain ⟨c, hc⟩ := I.ok.has x (.inl hk)
    obtain ⟨w', z⟩ := I.cell x c hc
    refine wpAny_storeName_cell I.ok.kind hk hc z (fun h' hc' hs => ?_)
    obtain ⟨oc, hoc, hocd⟩ := id z
    refine h { s with heap := h' } ⟨I.ok, I.os, I.bare, ⟨fun b o e n hb hx => ?_, fun b o e n hb hx => ?_, I.base.free, fun b o e hx => ?_, I.base.tups, I.base.frzs, I.base.tbls⟩, ⟨m, hn.sameBut hs (Ne.symm (cne x c hc)), fun j y v' e1 e2 e3 => ?_⟩, fun y c' e => ?_, I.free, I.freeC, fun p hp => ?_, tracked ⟨oc, hoc, I.freeC x c hc⟩ hs, by simpa using I.len⟩ ⟨c, hs, .inr hc⟩
    · exact (hs.2 b (Nat.ne_of_lt (Nat.lt_of_lt_of_le (Heap.lt_size e) (I.ok.cab x c hfn hc)))).trans (I.base.keep b o e n hb hx)
    · obtain ⟨sl, e1⟩ := I.base.slot b o e n hb hx
      exact ⟨sl, (hs.2 b (Nat.ne_of_lt (Nat.lt_of_lt_of_le (Heap.lt_size e) (I.ok.cab x c hfn hc)))).trans e1⟩
    · obtain ⟨o', e1⟩ := I.base.there b o e hx
      exact ⟨o', (hs.2 b (Nat.ne_of_lt (Nat.lt_of_lt_of_le (Heap.lt_size e) (I.ok.cab x c hfn hc)))).trans e1⟩
    · by_cases hj : j = i
      · subst hj
        rw [hi] at e1; cases e1
        rw [List.getElem?_set_self hiσ] at e2
        cases e2
        exact ⟨u, r, .inr ⟨.inl hk, c, hc, hc'⟩⟩
      · rw [List.getElem?_set_ne (Ne.symm hj)] at e2
        obtain ⟨u', r', q⟩ := hl j y v' e1 e2 e3
        refine ⟨u', r', ?_⟩
        rcases q with q | ⟨k, c', e, z'⟩
        · exact .inl q
        · refine .inr ⟨k, c', e, z'.sameBut hs ?_⟩
          rintro rfl
          exact hj (zpx hN e1 (I.ok.inj _ _ _ e hc ▸ hi))
    · by_cases hcc : c' = c
      · subst hcc; exact ⟨_, hc'⟩
      · obtain ⟨w2, z2⟩ := I.cell y c' e
        exact ⟨w2, z2.sameBut hs hcc⟩
    · obtain ⟨e, n, ne, nf, d⟩ := I.pin p hp
      refine ⟨(hs.2 p.1 ?_).trans e, n, ne, nf, d⟩
      intro q
      rw [q, hoc] at e
      have q' : oc = p.2 := Option.some.inj e
      exact d w' (by rw [<- q']; exact hocd)
theorem zri {M : Model} {A : Around} {E : Value -> Shared -> Prop} {i : Nat} {x : Str} {v : V} {u : Value} {Q : Unit -> Shared -> Prop} (I : Inv X pins σ H s) (hN : X.N.Nodup) (hi : X.N[i]? = some x) (hx : Loc X.env.scope x) (r : yhr v u)
    (h : ∀ s', Inv X pins (σ.set i (some v)) H s' -> Q () s') (hf : X.fn x = true \/ X.env.scope.names.lookup x = some .local := by first | exact .inl rfl | exact .inr rfl | assumption) : wpAny M A (storeName X.env x u) Q E s :=
  zm1 I hN hi hx r (fun s' I' _ => h s' I') hf
theorem Inv.call' {s' : Shared} {ch : List Addr} (I : Inv X pins σ H s) (ho : s'.os = s.os) (u : Un (frs X.stack) ch H H' s.heap s'.heap) (hok : HOk X.prog X.w H' s'.heap) (hg : AllBare s'.gens)
    (hch : ∀ b ∈ ch, (b ∈ X.ex \/ X.s₀.heap.objs.size <= b) /\ b ≠ X.env.locals /\ (∀ x c, X.env.cells.lookup x = some c -> c ≠ b) /\ ∀ p ∈ X.pn ++ pins, p.1 ≠ b) : Inv X pins σ H' s' := by
  obtain ⟨h', g', d', t', o'⟩ := s'
  have e : o' = s.os := ho
  subst e
  exact I.call (g' := g') (t' := t') (d' := d') u hok hg hch
end
abbrev XK := Value -> Option Addr -> Hp -> Prop
abbrev St := List (Option V)
abbrev VK := V -> Hp -> Prop
abbrev TE := St -> Hp -> VK -> Prop
abbrev TT := St -> Hp -> (Bool -> Hp -> Prop) -> Prop
abbrev TA := St -> Hp -> (List V -> Hp -> Prop) -> Prop
structure Ends where
  nx : St -> Hp -> Prop
  rt : VK
  bk : St -> Hp -> Prop := fun _ _ => False
  ct : St -> Hp -> Prop := fun _ _ => False
abbrev TS := Ends -> St -> Hp -> Prop
def EP (X : Cx) (pins : List (Addr × Obj)) (σ : St) (Q : VK) (u : Value) (s' : Shared) : Prop := ∃ v H', Inv X pins σ H' s' /\ yhr v u /\ Q v H'
def TP (X : Cx) (pins : List (Addr × Obj)) (σ : St) (Q : Bool -> Hp -> Prop) (b : Bool) (s' : Shared) : Prop := ∃ H', Inv X pins σ H' s' /\ Q b H'
def AP (X : Cx) (pins : List (Addr × Obj)) (σ : St) (Q : List V -> Hp -> Prop) (us : List Value) (s' : Shared) : Prop := ∃ vs H', Inv X pins σ H' s' /\ yhw vs us /\ Q vs H'
def SP (X : Cx) (pins : List (Addr × Obj)) (D : Ends) (f : Flow) (s' : Shared) : Prop :=
  match f with
  | .next => ∃ σ' H', Inv X pins σ' H' s' /\ D.nx σ' H'
  | .brk => ∃ σ' H', Inv X pins σ' H' s' /\ D.bk σ' H'
  | .cont => ∃ σ' H', Inv X pins σ' H' s' /\ D.ct σ' H'
  | .ret u => ∃ v σ' H', Inv X pins σ' H' s' /\ yhr v u /\ D.rt v H'
def PE (X : Cx) (e : Expr) (t : TE) : Prop :=
  ∀ (pins : List (Addr × Obj)) (s : Shared) (σ : St) (H : Hp) (Q : VK), Inv X pins σ H s -> t σ H Q -> wpAny (model X.prog X.w) X.A (eval e X.env) (EP X pins σ Q) X.xe s
def PT (X : Cx) (e : Expr) (t : TT) : Prop :=
  ∀ (pins : List (Addr × Obj)) (s : Shared) (σ : St) (H : Hp) (Q : Bool -> Hp -> Prop), Inv X pins σ H s -> t σ H Q -> wpAny (model X.prog X.w) X.A (isTrue e X.env (eval e X.env)) (TP X pins σ Q) X.xe s
def PW (X : Cx) (e : Expr) (t : TT) : Prop :=
  ∀ (whole : Sem Value) (pins : List (Addr × Obj)) (s : Shared) (σ : St) (H : Hp) (Q : Bool -> Hp -> Prop), Inv X pins σ H s -> t σ H Q -> wpAny (model X.prog X.w) X.A (isTrue e X.env whole) (TP X pins σ Q) X.xe s
theorem PW.pt {X : Cx} {e : Expr} {t : TT} (h : PW X e t) : PT X e t := h _
def PA (X : Cx) (es : List Expr) (t : TA) : Prop :=
  ∀ (pos : Pos) (pins : List (Addr × Obj)) (s : Shared) (σ : St) (H : Hp) (Q : List V -> Hp -> Prop), Inv X pins σ H s -> t σ H Q -> wpAny (model X.prog X.w) X.A (spliced (backTo pos (starEach es X.env))) (AP X pins σ Q) X.xe s
def PS (X : Cx) (st : Stmt) (t : TS) : Prop :=
  ∀ (pins : List (Addr × Obj)) (s : Shared) (σ : St) (H : Hp) (D : Ends), Inv X pins σ H s -> t D σ H -> wpAny (model X.prog X.w) X.A (exec st X.env) (SP X pins D) X.xe s
def PSs (X : Cx) (st : List Stmt) (t : TS) : Prop :=
  ∀ (pins : List (Addr × Obj)) (s : Shared) (σ : St) (H : Hp) (D : Ends), Inv X pins σ H s -> t D σ H -> wpAny (model X.prog X.w) X.A (execs st X.env) (SP X pins D) X.xe s
theorem thn {α : Type} {t : Sem α} {Q Q' : α -> Shared -> Prop} {M : Model} {A : Around} {E : Value -> Shared -> Prop} {s : Shared} (h : wpAny M A t Q E s) (hQ : ∀ a s, Q a s -> Q' a s) : wpAny M A t Q' E s := wpAny_mono h hQ fun _ _ x => x
end L2
namespace L2
open PySem PySem.Spec PyProof.Rows
section
variable {X : Cx}
theorem bin {a b : Expr} {ta tb : TE} (ha : PE X a ta) (hb : PE X b tb) {pins : List (Addr × Obj)} {s : Shared} {σ : St} {H : Hp} {R : V -> V -> Hp -> Prop} (I : Inv X pins σ H s) (h : ta σ H fun x H1 => tb σ H1 fun y H2 => R x y H2)
    {α : Type} {Q : α -> Shared -> Prop} {f : Value -> Value -> Sem α}
    (hf : ∀ v u s2 x y H2, Inv X pins σ H2 s2 -> yhr x v -> yhr y u -> R x y H2 -> wpAny (model X.prog X.w) X.A (f v u) Q X.xe s2) :
    wpAny (model X.prog X.w) X.A (eval a X.env) (fun v s₁ => wpAny (model X.prog X.w) X.A (eval b X.env) (fun u s₂ => wpAny (model X.prog X.w) X.A (f v u) Q X.xe s₂) X.xe s₁) X.xe s := by
  refine thn (ha pins s σ H _ I h) fun v s1 ⟨x, H1, I1, r1, q1⟩ => ?_
  refine thn (hb pins s1 σ H1 _ I1 q1) fun u s2 ⟨y, H2, I2, r2, q2⟩ => ?_
  exact hf v u s2 x y H2 I2 r1 r2 q2
def tVar (i : Nat) : TE := fun σ H Q => ∃ v, σ[i]? = some (some v) /\ Q v H
def tC (v : V) : TE := fun _ H Q => Q v H
theorem ycr {i : Nat} {x : Str} {pos : Pos} (hN : X.N[i]? = some x) (hv : Vis X.env.scope x) (hd : (x == ("__debug__" : Str)) = false := by decide) (hcd : (x == ("__classdict__" : Str)) = false := by decide) : PE X (.Name x pos) (tVar i) := by
  intro pins s σ H Q I h
  obtain ⟨v, e, h⟩ := h
  obtain ⟨m, hn, hl⟩ := I.loc
  obtain ⟨u, r, l⟩ := hl i x v hN e hv
  have fin : EP X pins σ Q u s := ⟨v, H, I, r, h⟩
  rcases l with ⟨hk, hm⟩ | ⟨hk, c, hc, hcell⟩
  · exact wpAny_Name (wpAny_loadName_local I.ok.kind hk hn hm fin) hd
  · rcases hk with hk | hk
    · exact wpAny_Name (wpAny_loadName_cell I.ok.kind hk hc hcell fin) hd
    · exact wpAny_Name (wpAny_loadName_free I.ok.kind hk hc hcell fin hcd) hd
theorem yck {i j pos} : PE X (.Constant (.int i) j pos) (tC (.int i)) := fun _ _ _ H _ I h => wpAny_Constant_int ⟨.int i, H, I.tok _, ⟨_, rfl⟩, h⟩
theorem pe_bl {b j pos} : PE X (.Constant (.bool b) j pos) (tC (.bl b)) := fun _ _ _ H _ I h => Constant_bool ⟨.bl b, H, I, rfl, h⟩
theorem ycm {j pos} : PE X (.Constant .none j pos) (tC .non) := fun _ _ _ H _ I h => Constant_none ⟨.non, H, I, rfl, h⟩
theorem ycp {x j pos} : PE X (.Constant (.str x) j pos) (tC (.str x)) := fun _ _ _ H _ I h => Calls.Constant_str ⟨.str x, H, I.tok _, ⟨_, rfl⟩, h⟩
def Gl (X : Cx) (x : Str) : Prop := X.env.kindOf x = some .globalImplicit
theorem zuw {E : Value -> Shared -> Prop} {pins : List (Addr × Obj)} {s : Shared} {σ : St} {H : Hp} {x : Str} {u : Value} {pos : Pos} {Q : Value -> Shared -> Prop} (I : Inv X pins σ H s) (hg : Gl X x) (hm : X.mg x = some u) (h : Q u s)
    (hd : (x == ("__debug__" : Str)) = false := by decide) : wpAny (model X.prog X.w) X.A (eval (.Name x pos) X.env) Q E s :=
  Calls.Name_function_global I.ok.kind hg (Calls.loadGlobal_global (by rw [I.ok.glob]; exact I.mod.glob.keeps I.bk) hm h) hd
theorem ya5 {E : Value -> Shared -> Prop} {pins : List (Addr × Obj)} {s : Shared} {σ : St} {H : Hp} {x : Str} {u : Value} {pos : Pos} {Q : Value -> Shared -> Prop} (I : Inv X pins σ H s) (hg : Gl X x) (hm : X.mg x = none) (hv : bootBuiltins x = some u) (h : Q u s)
    (hn : x ≠ "__name__" := by decide) (hd : (x == ("__debug__" : Str)) = false := by decide) : wpAny (model X.prog X.w) X.A (eval (.Name x pos) X.env) Q E s := by
  obtain ⟨mb, h1, h2⟩ := I.mod.blt
  exact Calls.Name_function_global I.ok.kind hg (Calls.loadGlobal_builtin (by rw [I.ok.glob]; exact I.mod.glob.keeps I.bk) hm (by rw [I.ok.blt]; exact h1.keeps I.bk) ((h2 x hn).trans hv) h) hd
theorem zwc {x : Str} {v : V} {u : Value} {pos : Pos} (hg : Gl X x) (hm : X.mg x = some u) (r : yhr v u) (hd : (x == ("__debug__" : Str)) = false := by decide) : PE X (.Name x pos) (tC v) :=
  fun _ _ _ H _ I h => zuw I hg hm ⟨v, H, I, r, h⟩ hd
theorem zv9 {x : Str} {v : V} {u : Value} {pos : Pos} (hg : Gl X x) (hm : X.mg x = none) (hv : bootBuiltins x = some u) (r : yhr v u) (hn : x ≠ "__name__" := by decide) (hd : (x == ("__debug__" : Str)) = false := by decide) : PE X (.Name x pos) (tC v) :=
  fun _ _ _ H _ I h => ya5 I hg hm hv ⟨v, H, I, r, h⟩ hn hd
variable {a b : Expr} {ta tb : TE} {pos : Pos}
def PC (X : Cx) (op : CmpOp) (a b : Expr) (t : TE) : Prop :=
  ∀ (pins : List (Addr × Obj)) (s : Shared) (σ : St) (H : Hp) (Q : VK), Inv X pins σ H s -> t σ H Q ->
    wpAny (model X.prog X.w) X.A (eval a X.env) (fun v s₁ => wpAny (model X.prog X.w) X.A (eval b X.env) (fun u s₂ => wpAny (model X.prog X.w) X.A (compareOp op v u) (EP X pins σ Q) X.xe s₂) X.xe s₁) X.xe s
theorem zpv (b : Expr) {op : CmpOp} (h : op ≠ .In) (h2 : op ≠ .NotIn) : behindInMarks op b = false := by
  have e1 : (op == CmpOp.In) = false := by cases op <;> first | rfl | exact absurd rfl h
  have e2 : (op == CmpOp.NotIn) = false := by cases op <;> first | rfl | exact absurd rfl h2
  cases b <;> simp [behindInMarks, e1, e2]
def tB (t : TE) : TT := fun σ H Q => t σ H fun x H1 => ∃ c, x = .bl c /\ Q c H1
theorem pt_cmp {op : CmpOp} {t : TE} (h : PC X op a b t) (h1 : behindInMarks op b = false := by first | exact zpv _ (by decide) (by decide) | rfl) : PT X (.Compare a [op] [b] pos) (tB t) := by
  intro pins s σ H Q I hw
  refine wpAny_isTrue_Compare1 (thn (h pins s σ H _ I hw) fun v s1 h1 => thn h1 fun u s2 h2 => thn h2 fun c s3 ⟨x, H1, I1, r1, q1⟩ => ?_) h1
  obtain ⟨d, rfl, q⟩ := q1
  cases r1
  exact wpAny_truthy_bool ⟨H1, I1, q⟩
theorem yc3 {e : Expr} {t : TE} (h : PE X e t) (he : ∀ whole, isTrue e X.env whole = (do let v <- whole; standAt e.pos; holding [v] (truthy v)) := by intro _; rfl) : PT X e (tB t) := by
  intro pins s σ H Q I hw
  refine isTrue_plain (thn (h pins s σ H _ I hw) fun v s1 ⟨x, H1, I1, r1, q1⟩ => ?_) (he _)
  obtain ⟨d, rfl, q⟩ := q1
  cases r1
  exact wpAny_truthy_bool ⟨H1, I1, q⟩
variable {tA tB' : TT} {yjg : List Expr}
def tAnd (t u : TT) : TT := fun σ H Q => t σ H fun c H1 => if c = true then u σ H1 Q else Q false H1
def tOr (t u : TT) : TT := fun σ H Q => t σ H fun c H1 => if c = true then Q true H1 else u σ H1 Q
def tNot (t : TT) : TT := fun σ H Q => t σ H fun c H1 => Q (!c) H1
theorem zws (ha : PT X a tA) : PW X (.BoolOp .And [a] pos) tA := by
  intro wh pins s σ H Q I h
  refine isTrue_and (thn (ha pins s σ H Q I h) fun c s1 e => ?_)
  cases c with
  | true => exact isTrue_and_nil e
  | false => exact e
theorem yc5 (ha : PT X a tA) : PW X (.BoolOp .Or [a] pos) tA := by
  intro wh pins s σ H Q I h
  refine isTrue_or (thn (ha pins s σ H Q I h) fun c s1 e => ?_)
  cases c with
  | false => exact isTrue_or_nil e
  | true => exact e
theorem yc4 (ha : PT X a tA) (hb : PW X (.BoolOp .And (b :: yjg) pos) tB') : PW X (.BoolOp .And (a :: b :: yjg) pos) (tAnd tA tB') := by
  intro wh pins s σ H Q I h
  refine isTrue_and (thn (ha pins s σ H _ I h) fun c s1 ⟨H1, I1, q1⟩ => ?_)
  cases c with
  | true => exact hb wh pins s1 σ H1 Q I1 q1
  | false => exact ⟨H1, I1, q1⟩
theorem pw_or (ha : PT X a tA) (hb : PW X (.BoolOp .Or (b :: yjg) pos) tB') : PW X (.BoolOp .Or (a :: b :: yjg) pos) (tOr tA tB') := by
  intro wh pins s σ H Q I h
  refine isTrue_or (thn (ha pins s σ H _ I h) fun c s1 ⟨H1, I1, q1⟩ => ?_)
  cases c with
  | true => exact ⟨H1, I1, q1⟩
  | false => exact hb wh pins s1 σ H1 Q I1 q1
theorem yc2 (ha : PT X a tA) : PT X (.UnaryOp .Not a pos) (tNot tA) := by
  intro pins s σ H Q I h
  exact isTrue_not (ha pins s σ H (fun c H1 => Q (!c) H1) I h)
def tAndV (ta tb : TE) : TE := fun σ H Q => ta σ H fun x H1 => ∃ c, x = .bl c /\ if c = true then tb σ H1 Q else Q (.bl false) H1
def tOrV (ta tb : TE) : TE := fun σ H Q => ta σ H fun x H1 => ∃ c, x = .bl c /\ if c = true then Q (.bl true) H1 else tb σ H1 Q
def tNotV (ta : TE) : TE := fun σ H Q => ta σ H fun x H1 => ∃ c, x = .bl c /\ Q (.bl (!c)) H1
theorem yco {op} {t : TE} (h : PE X a t) : PE X (.BoolOp op [a] pos) t := fun pins s σ H Q I hw => BoolOp_one (h pins s σ H Q I hw)
theorem yci (ha : PE X a ta) (hb : PE X (.BoolOp .And (b :: yjg) pos) tb) : PE X (.BoolOp .And (a :: b :: yjg) pos) (tAndV ta tb) := by
  intro pins s σ H Q I h
  refine BoolOp_and (thn (ha pins s σ H _ I h) fun v s1 ⟨x, H1, I1, r1, q1⟩ => ?_)
  obtain ⟨c, rfl, q1⟩ := q1
  cases r1
  refine wpAny_truthy_bool ?_
  cases c with
  | true => exact hb pins s1 σ H1 Q I1 q1
  | false => exact ⟨.bl false, H1, I1, rfl, q1⟩
theorem pe_or (ha : PE X a ta) (hb : PE X (.BoolOp .Or (b :: yjg) pos) tb) : PE X (.BoolOp .Or (a :: b :: yjg) pos) (tOrV ta tb) := by
  intro pins s σ H Q I h
  refine BoolOp_or (thn (ha pins s σ H _ I h) fun v s1 ⟨x, H1, I1, r1, q1⟩ => ?_)
  obtain ⟨c, rfl, q1⟩ := q1
  cases r1
  refine wpAny_truthy_bool ?_
  cases c with
  | false => exact hb pins s1 σ H1 Q I1 q1
  | true => exact ⟨.bl true, H1, I1, rfl, q1⟩
theorem ycn (ha : PE X a ta) : PE X (.UnaryOp .Not a pos) (tNotV ta) := by
  intro pins s σ H Q I h
  refine UnaryOp_ (thn (ha pins s σ H _ I h) fun v s1 ⟨x, H1, I1, r1, q1⟩ => ?_)
  obtain ⟨c, rfl, q1⟩ := q1
  cases r1
  exact not_of (wpAny_truthy_bool ⟨.bl (!c), H1, I1, rfl, q1⟩)
def tIf (t : TT) (ta tb : TE) : TE := fun σ H Q => t σ H fun c H1 => if c = true then ta σ H1 Q else tb σ H1 Q
theorem zqg {c : Expr} (hc : PT X c tA) (ha : PE X a ta) (hb : PE X b tb) : PE X (.IfExp c a b pos) (tIf tA ta tb) := by
  intro pins s σ H Q I h
  refine wpAny_IfExp (thn (hc pins s σ H _ I h) fun d s1 ⟨H1, I1, q1⟩ => ?_)
  cases d with
  | true => exact ha pins s1 σ H1 Q I1 q1
  | false => exact hb pins s1 σ H1 Q I1 q1
end
end L2
namespace L2
open PySem PySem.Spec PyProof.Rows
def SqL (K : PySem.W.Frag) (H : Hp) (a : Addr) (xs : List V) : Prop :=
  Rd H a (.lst xs) \/
    ∃ (o : Obj) (its : Array Value) (n : Nat), K.lookup a = some o /\ o.cls = .type "list" /\ o.dict = none /\ o.data = .seq its n /\ its.size <= sizeLine /\ yhw xs its.toList
def SqT (K : PySem.W.Frag) (H : Hp) (a : Addr) (xs : List V) : Prop :=
  Rd H a (.tup xs) \/
    ∃ (o : Obj) (its : Array Value) (n : Nat), K.lookup a = some o /\ o.cls = .type "tuple" /\ o.data = .seq its n /\ its.size <= sizeLine /\ yhw xs its.toList
def absV : Value -> Option V
  | .none => some .non
  | .bool b => some (.bl b)
  | .int i _ => some (.int i)
  | .str x _ => some (.str x)
  | .bytes b _ => some (.byt b)
  | .float b _ => some (.flt b)
  | .ref a => some (.ref a)
  | .type n => some (.ty n)
  | _ => none
theorem yhr.abs {x : V} {u : Value} (r : yhr x u) : absV u = some x := by
  cases x with
  | non => cases r; rfl
  | bl _ => cases r; rfl
  | int _ => obtain ⟨t, rfl⟩ := r; rfl
  | str _ => obtain ⟨t, rfl⟩ := r; rfl
  | byt _ => obtain ⟨t, rfl⟩ := r; rfl
  | flt _ => obtain ⟨t, rfl⟩ := r; rfl
  | ref _ => cases r; rfl
  | ty _ => cases r; rfl
theorem yhr.inj {x y : V} {u : Value} (r : yhr x u) (q : yhr y u) : x = y := Option.some.inj (r.abs.symm.trans q.abs)
theorem yhw.inj : ∀ {xs ys : List V} {us : List Value}, yhw xs us -> yhw ys us -> xs = ys
  | _, _, _, .nil, .nil => rfl
  | _, _, _, .cons r t, .cons r' t' => by rw [r.inj r', yhw.inj t t']
section
variable {X : Cx} {pins : List (Addr × Obj)} {σ : St} {H : Hp} {s : Shared} {a : Addr} {xs ys : List V}
theorem SqL.of {K : PySem.W.Frag} (h : H a = some (.lst xs)) : SqL K H a xs := .inl (.inl h)
theorem SqT.of {K : PySem.W.Frag} (h : H a = some (.tup xs)) : SqT K H a xs := .inl (.inl h)
theorem Inv.list (I : Inv X pins σ H s) (h : SqL X.K H a xs) : ∃ its : List Value, yhw xs its /\ PlainL s.heap a its.toArray /\ xs.length <= sizeLine := by
  rcases h with h | ⟨o, its, n, hk, hc, hd, hs, hz, r⟩
  · obtain ⟨z, its, n, r, e⟩ := h.ok I.hok
    exact ⟨its, r, ⟨_, n, e, rfl, rfl, rfl⟩, z⟩
  · refine ⟨its.toList, r, ⟨o, n, I.kIn a o hk, hc, hd, by simpa using hs⟩, ?_⟩
    have e := r.length
    simp only [Array.length_toList] at e
    omega
theorem Inv.tuple (I : Inv X pins σ H s) (h : SqT X.K H a xs) : ∃ its : List Value, yhw xs its /\ IsTup s.heap a its.toArray /\ xs.length <= sizeLine := by
  rcases h with h | ⟨o, its, n, hk, hc, hs, hz, r⟩
  · obtain ⟨z, its, r, p⟩ := h.ok I.hok
    exact ⟨its, r, p, z⟩
  · refine ⟨its.toList, r, ⟨o, I.kIn a o hk, hc, n, by simpa using hs⟩, ?_⟩
    have e := r.length
    simp only [Array.length_toList] at e
    omega
theorem Inv.list_inj (I : Inv X pins σ H s) (h : SqL X.K H a xs) (h' : SqL X.K H a ys) : xs = ys := by
  obtain ⟨its, r, ⟨o, n, e, _, _, d⟩, _⟩ := I.list h
  obtain ⟨its', r', ⟨o', n', e', _, _, d'⟩, _⟩ := I.list h'
  rw [e] at e'; cases e'
  rw [d] at d'
  injection d' with d1 _
  have : its = its' := by simpa using congrArg Array.toList d1
  subst this
  exact r.inj r'
theorem Inv.tuple_inj (I : Inv X pins σ H s) (h : SqT X.K H a xs) (h' : SqT X.K H a ys) : xs = ys := by
  obtain ⟨its, r, ⟨o, e, _, n, d⟩, _⟩ := I.tuple h
  obtain ⟨its', r', ⟨o', e', _, n', d'⟩, _⟩ := I.tuple h'
  rw [e] at e'; cases e'
  rw [d] at d'
  injection d' with d1 _
  have : its = its' := by simpa using congrArg Array.toList d1
  subst this
  exact r.inj r'
end
abbrev Cx.wish (X : Cx) (E : Value -> Shared -> Prop) : Cx := { X with xe := E }
abbrev Cx.nox (X : Cx) : Cx := X.wish fun _ _ => False
theorem Cx.Ok.wish {X : Cx} (ok : X.Ok) (E : Value -> Shared -> Prop) : (X.wish E).Ok :=
  ⟨ok.mod, ok.kind, ok.glob, ok.blt, ok.above, ok.inj, ok.has, ok.cab, ok.hd, ok.frames, ok.stk, ok.exf, ok.bs, ok.bsz, ok.noex, ok.exfs, ok.funs, ok.frf⟩
theorem Cx.Ok.unwish {X : Cx} {E : Value -> Shared -> Prop} (ok : (X.wish E).Ok) : X.Ok :=
  ⟨ok.mod, ok.kind, ok.glob, ok.blt, ok.above, ok.inj, ok.has, ok.cab, ok.hd, ok.frames, ok.stk, ok.exf, ok.bs, ok.bsz, ok.noex, ok.exfs, ok.funs, ok.frf⟩
section
variable {X : Cx} {pins : List (Addr × Obj)} {σ : St} {H : Hp} {s : Shared} {E : Value -> Shared -> Prop}
theorem Inv.wish (I : Inv X pins σ H s) (E : Value -> Shared -> Prop) : Inv (X.wish E) pins σ H s := ⟨I.ok.wish E, I.os, I.bare, I.base, I.loc, I.cell, I.free, I.freeC, I.pin, I.hok, I.len⟩
theorem Inv.unwish (I : Inv (X.wish E) pins σ H s) : Inv X pins σ H s := ⟨I.ok.unwish, I.os, I.bare, I.base, I.loc, I.cell, I.free, I.freeC, I.pin, I.hok, I.len⟩
theorem SP.unwish {D : Ends} {f : Flow} {s' : Shared} (h : SP (X.wish E) pins D f s') : SP X pins D f s' := by
  cases f with
  | next => obtain ⟨σ', H', I, q⟩ := h; exact ⟨σ', H', I.unwish, q⟩
  | brk => obtain ⟨σ', H', I, q⟩ := h; exact ⟨σ', H', I.unwish, q⟩
  | cont => obtain ⟨σ', H', I, q⟩ := h; exact ⟨σ', H', I.unwish, q⟩
  | ret u => obtain ⟨v, σ', H', I, r, q⟩ := h; exact ⟨v, σ', H', I.unwish, r, q⟩
theorem PE.nox {e : Expr} {t : TE} (h : PE X.nox e t) : PE X e t := fun pins s σ H Q I hw =>
  wpAny_mono (h pins s σ H Q (I.wish _) hw) (fun _ _ ⟨v, H', I', r, q⟩ => ⟨v, H', I'.unwish, r, q⟩) fun _ _ z => False.elim z
theorem PT.nox {e : Expr} {t : TT} (h : PT X.nox e t) : PT X e t := fun pins s σ H Q I hw =>
  wpAny_mono (h pins s σ H Q (I.wish _) hw) (fun _ _ ⟨H', I', q⟩ => ⟨H', I'.unwish, q⟩) fun _ _ z => False.elim z
theorem PSs.nox {st : List Stmt} {t : TS} (h : PSs X.nox st t) : PSs X st t := fun pins s σ H D I hw =>
  wpAny_mono (h pins s σ H D (I.wish _) hw) (fun _ _ q => q.unwish) fun _ _ z => False.elim z
end
section
variable {X : Cx} {st : Stmt} {yjg : List Stmt} {t u : TS} {e : Expr} {te : TE} {pos : Pos}
def tNext : TS := fun D σ H => D.nx σ H
def tSeq (t u : TS) : TS := fun D σ H => t { D with nx := u D } σ H
theorem zwm : PSs X [] tNext := fun _ _ σ H _ I h => wpAny_execs_nil ⟨σ, H, I, h⟩
theorem zqm (h1 : PS X st t) (h2 : PSs X yjg u) : PSs X (st :: yjg) (tSeq t u) := by
  intro pins s σ H D I h
  refine wpAny_execs_cons (thn (h1 pins s σ H { D with nx := u D } I h) fun f s1 q => ?_)
  cases f with
  | next =>
    obtain ⟨σ', H', I', q⟩ := q
    exact h2 pins s1 σ' H' D I' q
  | ret v => exact q
  | brk => exact q
  | cont => exact q
theorem zwn (h1 : PS X st t) : PSs X [st] t := by
  intro pins s σ H D I h
  refine wpAny_execs_cons (thn (h1 pins s σ H D I h) fun f s1 q => ?_)
  cases f with
  | next => exact wpAny_execs_nil q
  | ret v => exact q
  | brk => exact q
  | cont => exact q
theorem Inv.quiet {pins : List (Addr × Obj)} {σ : St} {H : Hp} {s : Shared} (I : Inv X pins σ H s) : interactive X.env = false := by simp [interactive, I.ok.kind]
def tDrop (te : TE) : TS := fun D σ H => te σ H fun _ H1 => D.nx σ H1
theorem zwl (he : PE X e te) (hs : swapsWith e none pos.line X.env = pure false := by rfl) : PS X (.Expr e pos) (tDrop te) := by
  intro pins s σ H D I h
  exact wpAny_Expr_any (thn (he pins s σ H _ I h) fun v s1 ⟨x, H1, I1, r1, q1⟩ => ⟨σ, H1, I1, q1⟩) I.quiet hs
def tRet (te : TE) : TS := fun D σ H => te σ H D.rt
theorem yc0 (he : PE X e te) : PS X (.Return (some e) pos) (tRet te) := by
  intro pins s σ H D I h
  exact wpAny_Return_some (thn (he pins s σ H _ I h) fun v s1 ⟨x, H1, I1, r1, q1⟩ => ⟨x, σ, H1, I1, r1, q1⟩)
def tIfS (c : TT) (t u : TS) : TS := fun D σ H => c σ H fun b H1 => if b = true then t D σ H1 else u D σ H1
theorem ps_if {c : Expr} {a b : List Stmt} {tc : TT} (hc : PT X c tc) (ha : PSs X a t) (hb : PSs X b u) : PS X (.If c a b pos) (tIfS tc t u) := by
  intro pins s σ H D I h
  refine wpAny_If (thn (hc pins s σ H _ I h) fun d s1 ⟨H1, I1, q1⟩ => ?_)
  cases d with
  | true => exact ha pins s1 σ H1 D I1 q1
  | false => exact hb pins s1 σ H1 D I1 q1
end
abbrev TG := V -> St -> Hp -> (St -> Hp -> Prop) -> Prop
abbrev TGs := List V -> St -> Hp -> (St -> Hp -> Prop) -> Prop
def PG (X : Cx) (target : Expr) (t : TG) : Prop :=
  ∀ (pins : List (Addr × Obj)) (s : Shared) (σ : St) (H : Hp) (v : V) (u : Value) (Q : St -> Hp -> Prop), Inv X pins σ H s -> yhr v u -> t v σ H Q ->
    wpAny (model X.prog X.w) X.A (assign target X.env u) (fun _ s' => ∃ σ' H', Inv X pins σ' H' s' /\ Q σ' H') X.xe s
def PGs (X : Cx) (ts : List Expr) (t : TGs) : Prop :=
  ∀ (pins : List (Addr × Obj)) (s : Shared) (σ : St) (H : Hp) (vs : List V) (us : List Value) (Q : St -> Hp -> Prop), Inv X pins σ H s -> yhw vs us -> t vs σ H Q ->
    wpAny (model X.prog X.w) X.A (assignInOrder ((assignEach ts X.env).map (·.2)) us) (fun _ s' => ∃ σ' H', Inv X pins σ' H' s' /\ Q σ' H') X.xe s
abbrev TSet := V -> V -> V -> Hp -> (Hp -> Prop) -> Prop
def PSet (X : Cx) (t : TSet) : Prop :=
  ∀ (pins : List (Addr × Obj)) (s : Shared) (σ : St) (H : Hp) (o i v : V) (ov iv u : Value) (Q : Hp -> Prop), Inv X pins σ H s -> yhr o ov -> yhr i iv -> yhr v u -> t o i v H Q ->
    wpAny (model X.prog X.w) X.A (setItem ov iv u) (fun _ s' => ∃ H', Inv X pins σ H' s' /\ Q H') X.xe s
abbrev TIp := V -> V -> Hp -> VK -> Prop
def PIp (X : Cx) (op : Operator) (t : TIp) : Prop :=
  ∀ (pins : List (Addr × Obj)) (s : Shared) (σ : St) (H : Hp) (x y : V) (v u : Value) (Q : VK), Inv X pins σ H s -> yhr x v -> yhr y u -> t x y H Q ->
    wpAny (model X.prog X.w) X.A (inplaceOp op v u) (EP X pins σ Q) X.xe s
section
variable {X : Cx} {pos : Pos}
def yfl (i : Nat) : TG := fun v σ H Q => Q (σ.set i (some v)) H
theorem zwd {i : Nat} {x : Str} (hN : X.N.Nodup) (hi : X.N[i]? = some x) (hx : Loc X.env.scope x) (hf : X.fn x = true \/ X.env.scope.names.lookup x = some .local := by first | exact .inl rfl | exact .inr rfl | assumption) : PG X (.Name x pos) (yfl i) := by
  intro pins s σ H v u Q I r h
  exact wpAny_assign_Name (zri I hN hi hx r (fun s' I' => ⟨_, H, I', h⟩) hf)
def gNil : TGs := fun vs σ H Q => vs = [] /\ Q σ H
def gCons (t : TG) (u : TGs) : TGs := fun vs σ H Q => ∃ v r, vs = v :: r /\ t v σ H fun σ' H' => u r σ' H' Q
theorem zwe : PGs X [] gNil := by
  intro pins s σ H vs us Q I r h
  obtain ⟨e, h⟩ := h
  subst e
  cases r
  exact assignInOrder_nil ⟨σ, H, I, h⟩
theorem zqi {e : Expr} {es : List Expr} {t : TG} {u : TGs} (h1 : PG X e t) (h2 : PGs X es u)
    (hs : (assignEach (e :: es) X.env).map (·.2) = assign e X.env :: (assignEach es X.env).map (·.2) := by rfl) : PGs X (e :: es) (gCons t u) := by
  intro pins s σ H vs us Q I r h
  obtain ⟨v, vr, e1, h⟩ := h
  subst e1
  cases r with
  | cons r rr =>
    rw [hs]
    refine assignInOrder_cons (thn (h1 pins s σ H _ _ _ I r h) fun _ s1 ⟨σ1, H1, I1, q1⟩ => ?_)
    exact h2 pins s1 σ1 H1 _ _ Q I1 rr q1
def gTup (K : PySem.W.Frag) (n : Nat) (t : TGs) : TG := fun v σ H Q => ∃ a xs, v = .ref a /\ SqT K H a xs /\ xs.length = n /\ t xs σ H Q
theorem yct {es : List Expr} {k : Nat} {t : TGs} {n : Nat} (hc : X.calm = true) (h : PGs X es t)
    (hn : (assignEach es X.env).length = n := by rfl) (hst : (assignEach es X.env).findIdx? (·.1) = none := by rfl) : PG X (.Tuple es k pos) (gTup X.K n t) := by
  intro pins s σ H v u Q I r hw
  obtain ⟨a, xs, e1, hq, hl, hw⟩ := hw
  subst e1
  cases r
  obtain ⟨its, rv, ht, hz⟩ := I.tuple hq
  refine assign_Tuple_tuple (I.ok.hd hc) ht (by simp [hn, <- hl, rv.length]) hst fun h' hx => ?_
  have I1 : Inv X pins σ H { s with heap := h' } := I.kept (t' := s.toks) fun b o e => hx b o (Nat.ne_of_lt (Heap.lt_size e)) e
  exact h pins _ σ H xs _ Q I1 (by simpa using rv) hw
def gSub (to ti : TE) (t : TSet) : TG := fun v σ H Q => to σ H fun o H1 => ti σ H1 fun i H2 => t o i v H2 fun H3 => Q σ H3
theorem ycs {o i : Expr} {to ti : TE} {t : TSet} (ho : PE X o to) (hi : PE X i ti) (hs : PSet X t)
    (ha : ∀ v, assign (.Subscript o i pos) X.env v = (do
      let ov <- holding [v] (eval o X.env)
      let iv <- holding [v, ov] (eval i X.env)
      standAt pos
      holding [v, ov, iv] (setItem ov iv v)
      release [v, ov, iv] []) := by intro _; rfl) : PG X (.Subscript o i pos) (gSub to ti t) := by
  intro pins s σ H v u Q I r h
  rw [ha]
  refine wpAny_bind (wpAny_holding (thn (ho pins s σ H _ I h) fun ov s1 ⟨x, H1, I1, r1, q1⟩ => ?_))
  refine wpAny_bind (wpAny_holding (thn (hi pins s1 σ H1 _ I1 q1) fun iv s2 ⟨y, H2, I2, r2, q2⟩ => ?_))
  refine wpAny_bind (wpAny_standAt (wpAny_bind (wpAny_holding (thn (hs pins s2 σ H2 x y v ov iv u _ I2 r1 r2 r q2) fun _ s3 ⟨H3, I3, q3⟩ => ?_))))
  exact wpAny_release ⟨σ, H3, I3, q3⟩
def tAsg (te : TE) (g : TG) : TS := fun D σ H => te σ H fun x H1 => g x σ H1 D.nx
theorem ycw {tg e : Expr} {te : TE} {g : TG} (he : PE X e te) (hg : PG X tg g) (hs : swapsWithSole [tg] e pos.line X.env = pure false := by rfl) (hw : swappedStores [tg] e X.env = pure none := by rfl)
    (h1 : (assignEach [tg] X.env).map (·.2) = [assign tg X.env] := by rfl) : PS X (.Assign [tg] e pos) (tAsg te g) := by
  intro pins s σ H D I h
  refine wpAny_Assign_stores (thn (he pins s σ H _ I h) fun v s1 ⟨x, H1, I1, r1, q1⟩ => ?_) hs hw
  rw [h1]
  exact thn (hg pins s1 σ H1 x v _ I1 r1 q1) fun _ s2 q => q
theorem yc1 {i : Nat} {x : Str} {e : Expr} {te : TE} {pos' : Pos} (hN : X.N.Nodup) (hi : X.N[i]? = some x) (hx : Loc X.env.scope x) (he : PE X e te) (hs : swapsWith e (some (.Name x pos')) pos.line X.env = pure false := by rfl) (hf : X.fn x = true \/ X.env.scope.names.lookup x = some .local := by first | exact .inl rfl | exact .inr rfl | assumption) :
    PS X (.Assign [.Name x pos'] e pos) (tAsg te (yfl i)) := by
  intro pins s σ H D I h
  refine wpAny_Assign_Name (thn (he pins s σ H _ I h) fun v s1 ⟨y, H1, I1, r1, q1⟩ => ?_) hs
  exact zri I1 hN hi hx r1 (fun s2 I2 => ⟨_, H1, I2, q1⟩) hf
def tAug (i : Nat) (te : TE) (ti : TIp) : TS := fun D σ H => ∃ x, σ[i]? = some (some x) /\ te σ H fun y H1 => ti x y H1 fun z H2 => D.nx (σ.set i (some z)) H2
theorem ycx {i : Nat} {x : Str} {e : Expr} {te : TE} {op : Operator} {ti : TIp} {pos' : Pos} (hN : X.N.Nodup) (hi : X.N[i]? = some x) (hx : Loc X.env.scope x) (he : PE X e te) (ho : PIp X op ti) (hf : X.fn x = true \/ X.env.scope.names.lookup x = some .local := by first | exact .inl rfl | exact .inr rfl | assumption) :
    PS X (.AugAssign (.Name x pos') op e pos) (tAug i te ti) := by
  intro pins s σ H D I h
  obtain ⟨v, e1, h⟩ := h
  obtain ⟨m, hn, hl⟩ := I.loc
  have vis : Vis X.env.scope x := by rcases hx with k | k; exact .inl k; exact .inr (.inl k)
  obtain ⟨u, r, l⟩ := hl i x v hi e1 vis
  refine wpAny_AugAssign_Name ?_
  have go : wpAny (model X.prog X.w) X.A (eval e X.env) (fun w s₂ => wpAny (model X.prog X.w) X.A (inplaceOp op u w) (fun r s₃ => wpAny (model X.prog X.w) X.A (storeName X.env x r) (fun _ => SP X pins D .next) X.xe s₃) X.xe s₂) X.xe s := by
    refine thn (he pins s σ H _ I h) fun w s1 ⟨y, H1, I1, r1, q1⟩ => ?_
    refine thn (ho pins s1 σ H1 v y u w _ I1 r r1 q1) fun z s2 ⟨zv, H2, I2, r2, q2⟩ => ?_
    exact zri I2 hN hi hx r2 (fun s3 I3 => ⟨_, H2, I3, q2⟩) hf
  rcases l with ⟨hk, hm⟩ | ⟨hk, c, hc, hcell⟩
  · exact wpAny_loadName_local I.ok.kind hk hn hm go
  · rcases hk with hk | hk
    · exact wpAny_loadName_cell I.ok.kind hk hc hcell go
    · rcases hx with k | k
      · have : X.env.scope.names.lookup x = some .free := hk
        rw [k] at this; cases this
      · have : X.env.scope.names.lookup x = some .free := hk
        rw [k] at this; cases this
def ipI (f : Int -> Int -> Int) : TIp := fun x y H Q => ∃ i j, x = .int i /\ y = .int j /\ Q (.int (f i j)) H
theorem yas : PIp X .Add (ipI fun i j => i + j) := by
  intro pins s σ H x y v u Q I r1 r2 h
  obtain ⟨i, j, e1, e2, q⟩ := h
  subst e1; subst e2
  obtain ⟨t, rfl⟩ := r1
  obtain ⟨t', rfl⟩ := r2
  exact iadd_int ⟨.int _, H, I.tok _, ⟨_, rfl⟩, q⟩
end
section
variable {X : Cx} {pos : Pos}
end
structure It where
  go : Nat -> Hp -> Prop
  yld : Nat -> Hp -> V -> Hp -> Prop
  stop : Nat -> Hp -> Prop
def yhn (X : Cx) (pins : List (Addr × Obj)) (H : Hp) (b : Addr) : Prop :=
  H b = none /\ b ≠ X.env.locals /\ b ∉ X.fs /\ (b ∈ X.ex \/ X.s₀.heap.objs.size <= b) /\ (∀ x c, X.env.cells.lookup x = some c -> c ≠ b) /\ ∀ p ∈ X.pn ++ pins, p.1 ≠ b
theorem Inv.fpOk {X : Cx} {pins : List (Addr × Obj)} {σ : St} {H H' : Hp} {s : Shared} {b : Addr} (I : Inv X pins σ H s) (hb : s.heap.objs.size <= b) (hn : H' b = none) : yhn X pins H' b := by
  refine ⟨hn, Nat.ne_of_gt (Nat.lt_of_lt_of_le I.lt hb), I.nofs hb, .inr (Nat.le_trans I.sz hb), fun x c e z => ?_, fun p hp z => ?_⟩
  · obtain ⟨v, q⟩ := I.cell x c e
    exact absurd (Nat.lt_of_lt_of_le q.lt (by rw [z]; exact hb)) (Nat.lt_irrefl _)
  · exact absurd (Nat.lt_of_lt_of_le (Heap.lt_size (I.pin p hp).1) (by rw [z]; exact hb)) (Nat.lt_irrefl _)
structure Turn (P : Program) (w : World) (K : PySem.W.Frag) (tg : Expr) (J : It) (fp : List Addr) (it : Addr) (tn : Nat -> Heap -> Prop) : Prop where
  mem : it ∈ fp
  obj : ∀ i h, tn i h -> ∀ b ∈ fp, ∃ o, h.get? b = some o /\ ∀ v, o.data ≠ .cell v
  keep : ∀ i h h', tn i h -> (∀ b ∈ fp, ∀ o, h.get? b = some o -> h'.get? b = some o) -> tn i h'
  item : ∀ (X : Cx), X.prog = P -> X.w = w -> X.K = K -> X.calm = true -> ∀ (i : Nat) (pins : List (Addr × Obj)) (s : Shared) (σ : St) (H : Hp) (E : Value -> Shared -> Prop), Inv X pins σ H s -> (∀ b ∈ fp, yhn X pins H b) -> tn i s.heap -> J.go i H ->
    wpAny (model P w) X.A (pyNext (.ref it)) (fun r s1 => ∃ u, r = some u /\
      wpAny (model P w) X.A (letOwnedTupleGo tg (.ref it) u) (fun _ s2 => ∃ x H', Inv X pins σ H' s2 /\ yhr x u /\ J.yld i H x H' /\ tn (i + 1) s2.heap /\ ∀ b ∈ fp, H' b = none) E s1) E s
  done : ∀ (X : Cx), X.prog = P -> X.w = w -> X.K = K -> X.calm = true -> ∀ (i : Nat) (pins : List (Addr × Obj)) (s : Shared) (σ : St) (H : Hp) (E : Value -> Shared -> Prop), Inv X pins σ H s -> (∀ b ∈ fp, yhn X pins H b) -> tn i s.heap -> J.stop i H ->
    wpAny (model P w) X.A (pyNext (.ref it)) (fun r s1 => r = none /\ Inv X pins σ H s1) E s
  self : ∀ (A : Around) (i : Nat) (s : Shared) (Q : Value -> Shared -> Prop) (E : Value -> Shared -> Prop), tn i s.heap -> Q (.ref it) s -> wpAny (model P w) A (pyIter (.ref it)) Q E s
abbrev TI := St -> Hp -> (It -> Hp -> Prop) -> Prop
def PIE (X : Cx) (pins : List (Addr × Obj)) (σ : St) (tg : Expr) (R : It -> Hp -> Prop) (itv : Value) (s2 : Shared) : Prop :=
  ∃ (it : Addr) (fp : List Addr) (tn : Nat -> Heap -> Prop) (J : It) (H' : Hp), itv = .ref it /\ Inv X pins σ H' s2 /\ Turn X.prog X.w X.K tg J fp it tn /\ tn 0 s2.heap /\ (∀ b ∈ fp, yhn X pins H' b) /\ R J H'
def PI (X : Cx) (tg iter : Expr) (wi : TI) : Prop :=
  ∀ (pins : List (Addr × Obj)) (s : Shared) (σ : St) (H : Hp) (R : It -> Hp -> Prop), Inv X pins σ H s -> wi σ H R ->
    wpAny (model X.prog X.w) X.A (eval iter X.env) (fun v s1 => wpAny (model X.prog X.w) X.A (pyIter v) (PIE X pins σ tg R) X.xe s1) X.xe s
theorem yfn {M : Model} {A : Around} {E : Value -> Shared -> Prop} {s : Shared} {tg : Expr} {it : Addr} {u : Value} {o : Obj} {n : String} {vs : Array Value} {Q : Unit -> Shared -> Prop} (ho : s.heap.get? it = some o) (hc : o.cls = .type n) (hd : o.data = .fields vs)
    (hn : ["enumerate", "zip", "dict_itemiterator", "dict_reverseitemiterator", "odict_iterator", "itertools.zip_longest", "itertools.pairwise"].contains n = false) (hQ : Q () s) : wpAny M A (letOwnedTupleGo tg (.ref it) u) Q E s := by
  unfold letOwnedTupleGo
  cases tg <;> first
    | exact wpAny_pure hQ
    | (cases u <;> first
        | exact wpAny_pure hQ
        | (refine wpAny_bind (wpAny_load ho ?_)
           rw [hc, hd]
           show wpAny M A (if (["enumerate", "zip", "dict_itemiterator", "dict_reverseitemiterator", "odict_iterator", "itertools.zip_longest", "itertools.pairwise"].contains n && vs[0]? == some (rawInt _)) = true then _ else _) Q E s
           rw [if_neg (by intro h; rw [hn, Bool.false_and] at h; cases h)]
           exact wpAny_pure hQ))
def Itl (K : PySem.W.Frag) (a : Addr) : It :=
  ⟨fun i H => ∃ xs x, SqL K H a xs /\ xs[i]? = some x, fun i H x H' => H' = H /\ ∀ xs, SqL K H a xs -> xs[i]? = some x, fun i H => ∃ xs, SqL K H a xs /\ xs.length <= i⟩
def Itt (K : PySem.W.Frag) (a : Addr) : It :=
  ⟨fun i H => ∃ xs x, SqT K H a xs /\ xs[i]? = some x, fun i H x H' => H' = H /\ ∀ xs, SqT K H a xs -> xs[i]? = some x, fun i H => ∃ xs, SqT K H a xs /\ xs.length <= i⟩
def Itr (lo : Int) (n : Nat) : It := ⟨fun i _ => i < n, fun i H x H' => H' = H /\ x = .int (lo + i), fun i _ => n <= i⟩
theorem zm6 {P : Program} {w : World} {K : PySem.W.Frag} {tg : Expr} (a it : Addr) : Turn P w K tg (Itl K a) [it] it (fun i h => h.IsListIter it a i) where
  mem := by simp
  obj := fun i h st b hb => by
    have e : b = it := by simpa using hb
    subst e
    obtain ⟨o, e, c, d⟩ := st
    exact ⟨o, e, fun v z => by rw [d] at z; cases z⟩
  keep := fun i h h' st k => st.at fun o e => k it (by simp) o e
  item := by
    intro X hP hw hK hc i pins s σ H E I hf st hg
    subst hP hw hK
    obtain ⟨xs, x, hq, hx⟩ := hg
    obtain ⟨its, rv, p, hz⟩ := I.list hq
    obtain ⟨u, hu, ru⟩ := rv.get hx
    obtain ⟨f0, f1, f2, f3, f4, f5⟩ := hf it (by simp)
    refine wpAny_pyNext_list_item st p.isList (x := u) (by simpa using hu) fun h' st' sb => ?_
    have I1 : Inv X pins σ H { s with heap := h' } := I.turned (t' := s.toks) (fun b o hb e => (sb.2 b hb).trans e) f0 f1 f3 f4 f5
    obtain ⟨o, e, c, d⟩ := id st'
    exact ⟨u, rfl, yfn (s := { s with heap := h' }) e c d (by decide) ⟨x, H, I1, ru, ⟨rfl, fun ys hy => by rw [I.list_inj hy hq]; exact hx⟩, st', fun b hb => (hf b hb).1⟩⟩
  done := by
    intro X hP hw hK hc i pins s σ H E I hf st hg
    subst hP hw hK
    obtain ⟨xs, hq, hx⟩ := hg
    obtain ⟨its, rv, p, hz⟩ := I.list hq
    obtain ⟨f0, f1, f2, f3, f4, f5⟩ := hf it (by simp)
    have hl := rv.length
    exact wpAny_pyNext_list_end (I.ok.hd hc) st p.isList (by simp; omega) fun h' eb => ⟨rfl, I.turned (t' := s.toks) (fun b o hb e => eb b o hb e) f0 f1 f3 f4 f5⟩
  self := fun _ _ _ _ _ st h => wpAny_pyIter_listiter st h
theorem zj1 {P : Program} {w : World} {K : PySem.W.Frag} {tg : Expr} (a it : Addr) : Turn P w K tg (Itt K a) [it] it (fun i h => h.IsTupleIter it a i) where
  mem := by simp
  obj := fun i h st b hb => by
    have e : b = it := by simpa using hb
    subst e
    obtain ⟨o, e, c, d⟩ := st
    exact ⟨o, e, fun v z => by rw [d] at z; cases z⟩
  keep := fun i h h' st k => st.at fun o e => k it (by simp) o e
  item := by
    intro X hP hw hK hc i pins s σ H E I hf st hg
    subst hP hw hK
    obtain ⟨xs, x, hq, hx⟩ := hg
    obtain ⟨its, rv, p, hz⟩ := I.tuple hq
    obtain ⟨u, hu, ru⟩ := rv.get hx
    obtain ⟨f0, f1, f2, f3, f4, f5⟩ := hf it (by simp)
    refine wpAny_pyNext_tuple_item st (show s.heap.IsTuple a its.toArray from p) (x := u) (by simpa using hu) fun h' st' sb => ?_
    have I1 : Inv X pins σ H { s with heap := h' } := I.turned (t' := s.toks) (fun b o hb e => (sb.2 b hb).trans e) f0 f1 f3 f4 f5
    obtain ⟨o, e, c, d⟩ := id st'
    exact ⟨u, rfl, yfn (s := { s with heap := h' }) e c d (by decide) ⟨x, H, I1, ru, ⟨rfl, fun ys hy => by rw [I.tuple_inj hy hq]; exact hx⟩, st', fun b hb => (hf b hb).1⟩⟩
  done := by
    intro X hP hw hK hc i pins s σ H E I hf st hg
    subst hP hw hK
    obtain ⟨xs, hq, hx⟩ := hg
    obtain ⟨its, rv, p, hz⟩ := I.tuple hq
    obtain ⟨f0, f1, f2, f3, f4, f5⟩ := hf it (by simp)
    have hl := rv.length
    exact wpAny_pyNext_tuple_end (I.ok.hd hc) st (show s.heap.IsTuple a its.toArray from p) (by simp; omega) fun h' eb => ⟨rfl, I.turned (t' := s.toks) (fun b o hb e => eb b o hb e) f0 f1 f3 f4 f5⟩
  self := fun _ _ _ _ _ st h => wpAny_pyIter_tupleiter st h
theorem zj0 {P : Program} {w : World} {K : PySem.W.Frag} {tg : Expr} (it : Addr) (lo : Int) (n : Nat) : Turn P w K tg (Itr lo n) [it] it (fun i h => IsRangeIter h it (lo + (i : Nat) * 1) ((n : Int) - (i : Nat)) 1) where
  mem := by simp
  obj := fun i h st b hb => by
    have e : b = it := by simpa using hb
    subst e
    exact ⟨_, st, fun v z => by
      have z' : Data.fields _ = Data.cell v := z
      cases z'⟩
  keep := fun i h h' st k => k it (by simp) _ st
  item := by
    intro X hP hw hK hc i pins s σ H E I hf st hg
    subst hP hw hK
    obtain ⟨f0, f1, f2, f3, f4, f5⟩ := hf it (by simp)
    have W := Walks.range (prog := X.prog) (w := X.w) (I.ok.hd hc) it lo 1 n
    refine W.item i s _ _ hg st fun v h' tk hv st' kk => ?_
    obtain ⟨t, rfl⟩ := hv
    have I1 : Inv X pins σ H { s with heap := h', toks := tk } := I.turned (fun b o hb e => kk b o (by simpa using hb) e) f0 f1 f3 f4 f5
    refine ⟨_, rfl, yfn (s := { s with heap := h', toks := tk }) (n := "range_iterator") st' rfl rfl (by decide) ⟨.int (lo + i), H, I1, ⟨t, ?_⟩, ⟨rfl, rfl⟩, st', fun b hb => (hf b hb).1⟩⟩
    rw [Int.mul_one]
  done := by
    intro X hP hw hK hc i pins s σ H E I hf st hg
    subst hP hw hK
    obtain ⟨f0, f1, f2, f3, f4, f5⟩ := hf it (by simp)
    exact wpAny_pyNext_range_end (I.ok.hd hc) st (by have : n <= i := hg; omega) fun h' eb => ⟨rfl, I.turned (t' := s.toks) (fun b o hb e => eb b o hb e) f0 f1 f3 f4 f5⟩
  self := fun _ _ _ _ _ st h => wpAny_pyIter_rangeiter st h
end L2
namespace L2
open PySem PySem.Spec PyProof.Rows
section
variable {X : Cx} {tg : Expr}
theorem zqp {pins : List (Addr × Obj)} {σ : St} {H : Hp} {s : Shared} {R : It -> Hp -> Prop} {E : Value -> Shared -> Prop} {lo hi : Int} {t u v : Tok} {tk : Nat} (I : Inv X pins σ H s) (h1 : -(2 ^ 62) <= lo) (h2 : lo < 2 ^ 62) (h3 : -(2 ^ 62) <= hi) (h4 : hi < 2 ^ 62)
    (q : R (Itr lo (hi - lo).toNat) H) : wpAny (model X.prog X.w) X.A (pyIter (.ref s.heap.objs.size)) (PIE X pins σ tg R) E { s with heap := s.heap.push { cls := .type "range", data := .fields #[.int lo t, .int hi u, .int 1 v] }, toks := tk } := by
  refine wpAny_pyIter_range (IsRange.new ..) (small_one h1 h2 h3 h4) ?_
  have I1 : Inv X pins σ H { s with heap := s.heap.push { cls := .type "range", data := .fields #[.int lo t, .int hi u, .int 1 v] }, toks := tk } := I.kept fun b o e => Heap.get?_push_of_some _ e
  refine ⟨(s.heap.push { cls := .type "range", data := .fields #[.int lo t, .int hi u, .int 1 v] }).objs.size, [(s.heap.push { cls := .type "range", data := .fields #[.int lo t, .int hi u, .int 1 v] }).objs.size], _, _, H, rfl,
    I1.kept (t' := tk) fun b o e => Heap.get?_push_of_some _ e, zj0 _ lo (hi - lo).toNat, ?_, fun b hb => ?_, q⟩
  · have e1 : lo + ((0 : Nat) : Int) * 1 = lo := by simp
    have e2 : (((hi - lo).toNat : Nat) : Int) - ((0 : Nat) : Int) = Builtin.Range.rangeSize lo hi 1 := by rw [rangeSize_one]; split <;> omega
    show IsRangeIter _ _ (lo + ((0 : Nat) : Int) * 1) ((((hi - lo).toNat : Nat) : Int) - ((0 : Nat) : Int)) 1
    rw [e1, e2]
    exact Heap.get?_push_size _ rfl
  · have e : b = (s.heap.push { cls := .type "range", data := .fields #[.int lo t, .int hi u, .int 1 v] }).objs.size := by simpa using hb
    subst e
    exact I1.fpOk (Nat.le_refl _) (I1.hok.fresh (Nat.le_refl _))
def iRng1 (ta : TA) : TI := fun σ H R => ta σ H fun vs H1 => ∃ j : Int, vs = [.int j] /\ -(2 ^ 62) <= j /\ j < 2 ^ 62 /\ R (Itr 0 j.toNat) H1
theorem zmb {a : Expr} {ta : TA} {p pos : Pos} (hg : Gl X "range") (hm : X.mg "range" = none) (ha : PA X [a] ta) (hs : starEach [a] X.env = [(false, eval a X.env)] := by rfl) : PI X tg (.Call (.Name "range" p) [a] [] pos) (iRng1 ta) := by
  intro pins s σ H R I h
  refine Call_ (ya5 I hg hm boot_range (PyProof.Rows.callWith_type1 (thn (ha pos pins s σ H _ I h) fun us s1 ⟨vs, H1, I1, r1, q1⟩ => ?_) hs rfl))
  obtain ⟨j, e, q1, q2, q⟩ := q1
  subst e
  cases r1 with
  | cons r rr =>
    cases rr
    obtain ⟨t, rfl⟩ := r
    exact call_range_1 (zqp I1 (by omega) (by omega) q1 q2 (by simpa using q))
def tFor (wi : TI) (g : TG) (tb : TS) : TS := fun D σ H => wi σ H fun J H1 => ∃ W : Nat -> Nat -> St -> Hp -> Prop, (∃ m, W 0 m σ H1) /\ ∀ i m σ H, W i m σ H ->
  (J.stop i H /\ D.nx σ H) \/ (J.go i H /\ ∃ N : St -> Hp -> Prop, (∀ σ' H', N σ' H' -> ∃ m', m' < m /\ W (i + 1) m' σ' H') /\ ∀ x H', J.yld i H x H' -> g x σ H' fun σ2 H2 => tb { D with nx := N, ct := N, bk := D.nx } σ2 H2)
def ycv (fp : List Addr) (h : Heap) : List (Addr × Obj) := fp.filterMap fun b => (h.get? b).map fun o => (b, o)
theorem ziy {fp : List Addr} {h : Heap} {b : Addr} {o : Obj} (hb : b ∈ fp) (e : h.get? b = some o) : (b, o) ∈ ycv fp h := List.mem_filterMap.mpr ⟨b, hb, by rw [e]; rfl⟩
theorem zl4 {fp : List Addr} {h : Heap} {p : Addr × Obj} (hp : p ∈ ycv fp h) : p.1 ∈ fp /\ h.get? p.1 = some p.2 := by
  obtain ⟨b, hb, e⟩ := List.mem_filterMap.mp hp
  cases q : h.get? b with
  | none => rw [q] at e; cases e
  | some o =>
    rw [q] at e
    have e' : (b, o) = p := Option.some.inj e
    subst e'
    exact ⟨hb, q⟩
theorem Inv.pinned {pins : List (Addr × Obj)} {σ : St} {H : Hp} {s : Shared} {fp : List Addr} (I : Inv X pins σ H s) (hf : ∀ b ∈ fp, yhn X pins H b) (ho : ∀ b ∈ fp, ∃ o, s.heap.get? b = some o /\ ∀ v, o.data ≠ .cell v) : Inv X (pins ++ ycv fp s.heap) σ H s :=
  I.pins_of fun p hp => (List.mem_append.mp hp).elim (fun z => I.pin p (List.mem_append_right _ z)) fun z => by
    obtain ⟨hb, e⟩ := zl4 z
    obtain ⟨f0, f1, f2, _⟩ := hf p.1 hb
    obtain ⟨o, e', d⟩ := ho p.1 hb
    rw [e] at e'; cases e'
    exact ⟨e, f0, f1, f2, d⟩
theorem Inv.unpinned {pins pl : List (Addr × Obj)} {σ : St} {H : Hp} {s : Shared} (I : Inv X (pins ++ pl) σ H s) : Inv X pins σ H s := I.pins_of fun p hp => I.pin p (List.mem_append_right _ (List.mem_append_left _ hp))
theorem ycz {iter : Expr} {body : List Stmt} {wi : TI} {g : TG} {tb : TS} {pos : Pos} (hp : PassesOwn (model X.prog X.w) X.A X.env X.xe) (hc : X.calm = true) (hi : PI X tg iter wi) (hg : PG X tg g) (hb : PSs X body tb)
    (hs : ∀ x, foldedSetIterable iter X.env x = pure x := by intro _; rfl) : PS X (.For tg iter body [] pos) (tFor wi g tb) := by
  intro pins s σ H D I h
  refine wpAny_For (thn (hi pins s σ H _ I h) fun v s1 h1 => thn h1 fun itv s2 h2 => ?_) hs
  obtain ⟨it, fp, tn, J, H2, e, I2, T, st2, f2, W, ⟨m0, w0⟩, turn⟩ := h2
  subst e
  have stat : ∀ {H' : Hp}, (∀ b ∈ fp, H' b = none) -> ∀ b ∈ fp, yhn X pins H' b := fun hn b hb => ⟨hn b hb, (f2 b hb).2⟩
  refine codeAny_forLoop_any (fun n s' => ∃ i σ' H', Inv X pins σ' H' s' /\ tn i s'.heap /\ (∀ b ∈ fp, H' b = none) /\ W i n σ' H') ?_ m0 ⟨0, σ, H2, I2, st2, fun b hb => (f2 b hb).1, w0⟩
  rintro n s3 ⟨i, σ3, H3, I3, st3, fr3, w3⟩
  rcases turn i n σ3 H3 w3 with ⟨stop, qn⟩ | ⟨go, N, hN, step⟩
  · refine wpAny_passesOwn hp (thn (T.done X rfl rfl rfl hc i pins s3 σ3 H3 X.xe I3 (stat fr3) st3 stop) fun r s4 ⟨hr, I4⟩ => ?_)
    subst hr
    exact wpAny_execs_nil ⟨σ3, H3, I4, qn⟩
  · refine wpAny_passesOwn hp (thn (T.item X rfl rfl rfl hc i pins s3 σ3 H3 X.xe I3 (stat fr3) st3 go) fun r s4 ⟨u, hr, h4⟩ => ?_)
    subst hr
    refine wpAny_passesOwn hp (thn h4 fun _ s5 ⟨x, H5, I5, r5, y5, st5, fr5⟩ => ?_)
    have I5' := I5.pinned (stat fr5) (T.obj _ _ st5)
    refine wpAny_passesOwn hp (thn (hg _ s5 σ3 H5 x u _ I5' r5 (step x H5 y5)) fun _ s6 ⟨σ6, H6, I6, q6⟩ => ?_)
    refine wpAny_passesOwn hp (thn (hb _ s6 σ6 H6 _ I6 q6) fun f s7 q7 => ?_)
    have again : ∀ {σ7 : St} {H7 : Hp}, Inv X (pins ++ ycv fp s5.heap) σ7 H7 s7 -> N σ7 H7 -> ∃ m, m < n /\ ∃ i σ' H', Inv X pins σ' H' s7 /\ tn i s7.heap /\ (∀ b ∈ fp, H' b = none) /\ W i m σ' H' := fun {σ7 H7} I7 n7 => by
      obtain ⟨m', hm, w7⟩ := hN σ7 H7 n7
      refine ⟨m', hm, i + 1, σ7, H7, I7.unpinned, T.keep _ _ _ st5 fun b hb o e => (I7.pin (b, o) (List.mem_append_right _ (List.mem_append_right _ (ziy hb e)))).1, fun b hb => ?_, w7⟩
      obtain ⟨o, e, d⟩ := T.obj _ _ st5 b hb
      exact (I7.pin (b, o) (List.mem_append_right _ (List.mem_append_right _ (ziy hb e)))).2.1
    cases f with
    | next => obtain ⟨σ7, H7, I7, n7⟩ := q7; exact again I7 n7
    | cont => obtain ⟨σ7, H7, I7, n7⟩ := q7; exact again I7 n7
    | brk => obtain ⟨σ7, H7, I7, q7⟩ := q7; exact ⟨σ7, H7, I7.unpinned, q7⟩
    | ret v => obtain ⟨x7, σ7, H7, I7, r7, q7⟩ := q7; exact ⟨x7, σ7, H7, I7.unpinned, r7, q7⟩
end
end L2
namespace L2
open PySem PySem.Spec PyProof.Rows
abbrev R2 := V -> V -> Hp -> VK -> Prop
def OpR (X : Cx) (f : Value -> Value -> Sem Value) (r : R2) : Prop :=
  ∀ (pins : List (Addr × Obj)) (s : Shared) (σ : St) (H : Hp) (x y : V) (v u : Value) (Q : VK), Inv X pins σ H s -> yhr x v -> yhr y u -> r x y H Q ->
    wpAny (model X.prog X.w) X.A (f v u) (EP X pins σ Q) X.xe s
def UnR (X : Cx) (f : Value -> Sem Value) (r : V -> Hp -> VK -> Prop) : Prop :=
  ∀ (pins : List (Addr × Obj)) (s : Shared) (σ : St) (H : Hp) (x : V) (v : Value) (Q : VK), Inv X pins σ H s -> yhr x v -> r x H Q ->
    wpAny (model X.prog X.w) X.A (f v) (EP X pins σ Q) X.xe s
def yd8 (X : Cx) (f : Value) (r : List V -> Hp -> VK -> Prop) : Prop :=
  ∀ (pins : List (Addr × Obj)) (s : Shared) (σ : St) (H : Hp) (xs : List V) (us : List Value) (Q : VK), Inv X pins σ H s -> yhw xs us -> r xs H Q ->
    wpAny (model X.prog X.w) X.A (call f us) (EP X pins σ Q) X.xe s
def tOp (r : R2) (ta tb : TE) : TE := fun σ H Q => ta σ H fun x H1 => tb σ H1 fun y H2 => r x y H2 Q
def tUn (r : V -> Hp -> VK -> Prop) (ta : TE) : TE := fun σ H Q => ta σ H fun x H1 => r x H1 Q
def rI (C : Int -> Int -> Prop) (g : Int -> Int -> V) : R2 := fun x y H Q => ∃ i j, x = .int i /\ y = .int j /\ C i j /\ Q (g i j) H
def rI0 (g : Int -> Int -> V) : R2 := fun x y H Q => ∃ i j, x = .int i /\ y = .int j /\ Q (g i j) H
def rU (g : Int -> V) : V -> Hp -> VK -> Prop := fun x H Q => ∃ i, x = .int i /\ Q (g i) H
section
variable {X : Cx} {a b c : Expr} {ta tb tc : TE} {pos : Pos}
theorem binT (ha : PE X a ta) (hb : PE X b tb) {pins : List (Addr × Obj)} {s : Shared} {σ : St} {H : Hp} {R : V -> V -> Hp -> Prop} (I : Inv X pins σ H s)
    (h : ta σ H fun x H1 => tb σ H1 fun y H2 => R x y H2) {Q : Value -> Shared -> Prop} {f : Value -> Value -> Sem Value}
    (hf : ∀ v u s2 x y H2, Inv X pins σ H2 s2 -> yhr x v -> yhr y u -> R x y H2 -> wpAny (model X.prog X.w) X.A (f v u) Q X.xe s2) :
    wpAny (model X.prog X.w) X.A (eval a X.env) (fun v s₁ => wpAny (model X.prog X.w) X.A (eval b X.env) (fun u s₂ => wpAny (model X.prog X.w) X.A (f v u) Q X.xe s₂) X.xe s₁) X.xe s := by
  refine thn (ha pins s σ H _ I h) fun v s1 ⟨x, H1, I1, r1, q1⟩ => ?_
  refine thn (hb pins s1 σ H1 _ I1 q1) fun u s2 ⟨y, H2, I2, r2, q2⟩ => ?_
  exact hf v u s2 x y H2 I2 r1 r2 q2
theorem pe_op {op : Operator} {r : R2} (ho : OpR X (binaryOp op) r) (ha : PE X a ta) (hb : PE X b tb) : PE X (.BinOp a op b pos) (tOp r ta tb) := by
  intro pins s σ H Q I h
  exact wpAny_BinOp (binT ha hb I h fun v u s2 x y H2 I2 rx ry q => ho pins s2 σ H2 x y v u Q I2 rx ry q)
theorem pe_un {op : UnaryOp} {r : V -> Hp -> VK -> Prop} (ho : UnR X (unaryOp op) r) (ha : PE X a ta) : PE X (.UnaryOp op a pos) (tUn r ta) := by
  intro pins s σ H Q I h
  exact UnaryOp_ (thn (ha pins s σ H _ I h) fun v s1 ⟨x, H1, I1, r1, q1⟩ => ho pins s1 σ H1 x v Q I1 r1 q1)
theorem opI {f : Value -> Value -> Sem Value} {C : Int -> Int -> Prop} {g : Int -> Int -> Int}
    (rule : ∀ (i j : Int) (t u : Tok) (s : Shared) (Q : Value -> Shared -> Prop) (E : Value -> Shared -> Prop), C i j -> Q (.int (g i j) s.toks) { s with toks := s.toks + 1 } -> wpAny (model X.prog X.w) X.A (f (.int i t) (.int j u)) Q E s) :
    OpR X f (rI C fun i j => .int (g i j)) := by
  intro pins s σ H x y v u Q I rx ry h
  obtain ⟨i, j, rfl, rfl, hc, q⟩ := h
  obtain ⟨t, rfl⟩ := rx
  obtain ⟨t', rfl⟩ := ry
  exact rule i j t t' s _ _ hc ⟨.int (g i j), H, I.tok _, ⟨_, rfl⟩, q⟩
theorem opI0 {f : Value -> Value -> Sem Value} {g : Int -> Int -> Int}
    (rule : ∀ (i j : Int) (t u : Tok) (s : Shared) (Q : Value -> Shared -> Prop) (E : Value -> Shared -> Prop), Q (.int (g i j) s.toks) { s with toks := s.toks + 1 } -> wpAny (model X.prog X.w) X.A (f (.int i t) (.int j u)) Q E s) :
    OpR X f (rI0 fun i j => .int (g i j)) := by
  intro pins s σ H x y v u Q I rx ry h
  obtain ⟨i, j, rfl, rfl, q⟩ := h
  obtain ⟨t, rfl⟩ := rx
  obtain ⟨t', rfl⟩ := ry
  exact rule i j t t' s _ _ ⟨.int (g i j), H, I.tok _, ⟨_, rfl⟩, q⟩
theorem opB0 {f : Value -> Value -> Sem Value} {g : Int -> Int -> Bool}
    (rule : ∀ (i j : Int) (t u : Tok) (s : Shared) (Q : Value -> Shared -> Prop) (E : Value -> Shared -> Prop), Q (.bool (g i j)) s -> wpAny (model X.prog X.w) X.A (f (.int i t) (.int j u)) Q E s) :
    OpR X f (rI0 fun i j => .bl (g i j)) := by
  intro pins s σ H x y v u Q I rx ry h
  obtain ⟨i, j, rfl, rfl, q⟩ := h
  obtain ⟨t, rfl⟩ := rx
  obtain ⟨t', rfl⟩ := ry
  exact rule i j t t' s _ _ ⟨.bl (g i j), H, I, rfl, q⟩
def CDiv (i j : Int) : Prop := 0 < j /\ j < 1073741824
def CPow (i j : Int) : Prop := 0 <= j /\ j <= 1000000 /\ i.natAbs < 2 ^ 64
def CMul (i j : Int) : Prop := (-(2 ^ 64) < i /\ i < 2 ^ 64) \/ (-(2 ^ 64) < j /\ j < 2 ^ 64)
theorem CMul.ok {i j : Int} (h : CMul i j) : IntMulOk i j := by
  rcases h with ⟨h1, h2⟩ | ⟨h1, h2⟩
  · exact .of_left (intBits_le_64 h1 h2)
  · exact .of_right (intBits_le_64 h1 h2)
theorem zj2 (k : Nat) : (0 : Int) <= 2 ^ k := by
  rw [two_pow_cast]
  exact Int.natCast_nonneg _
theorem yb4 : OpR X (binaryOp .Add) (rI0 fun i j => .int (i + j)) := opI0 fun _ _ _ _ _ _ _ q => add_int q
theorem ycg : OpR X (binaryOp .Sub) (rI0 fun i j => .int (i - j)) := opI0 fun _ _ _ _ _ _ _ q => sub_int q
theorem ycb : OpR X (binaryOp .Mult) (rI CMul fun i j => .int (i * j)) := opI fun _ _ _ _ _ _ _ hc q => mul_int q hc.ok
theorem zv3 : OpR X (binaryOp .FloorDiv) (rI CDiv fun i j => .int (i / j)) := opI fun i j _ _ _ _ _ hc q => by
  have h1 : (0 : Int) < j := hc.1
  have h2 : j < 1073741824 := hc.2
  exact floordiv_int (by omega) (by rw [Int.fdiv_eq_ediv_of_nonneg i (by omega)]; exact q) (.inl (PyProof.noPylong_small (by omega)))
theorem yca : OpR X (binaryOp .Mod) (rI (fun _ j => 0 < j) fun i j => .int (i % j)) := opI fun i j _ _ _ _ _ hc q => by
  have h1 : (0 : Int) < j := hc
  exact mod_int' (by omega) (by rw [Int.fmod_eq_emod_of_nonneg i (by omega)]; exact q)
theorem ycd : OpR X (binaryOp .Pow) (rI CPow fun i j => .int (i ^ j.toNat)) := opI fun _ _ _ _ _ _ _ hc q => pow_int_small hc.1 hc.2.1 hc.2.2 q
theorem ycf : OpR X (binaryOp .RShift) (rI (fun _ j => 0 <= j) fun i j => .int (i / 2 ^ j.toNat)) := opI fun i j _ _ _ _ _ hc q =>
  rshift_int hc (by rw [Int.fdiv_eq_ediv_of_nonneg i (zj2 _)]; exact q)
theorem yb5 : OpR X (binaryOp .BitAnd) (rI0 fun i j => .int (Builtin.bitAnd i j)) := opI0 fun _ _ _ _ _ _ _ q => and_int q
theorem unI {f : Value -> Sem Value} {g : Int -> Int}
    (rule : ∀ (i : Int) (t : Tok) (s : Shared) (Q : Value -> Shared -> Prop) (E : Value -> Shared -> Prop), Q (.int (g i) s.toks) { s with toks := s.toks + 1 } -> wpAny (model X.prog X.w) X.A (f (.int i t)) Q E s) :
    UnR X f (rU fun i => .int (g i)) := by
  intro pins s σ H x v Q I rx h
  obtain ⟨i, rfl, q⟩ := h
  obtain ⟨t, rfl⟩ := rx
  exact rule i t s _ _ ⟨.int (g i), H, I.tok _, ⟨_, rfl⟩, q⟩
theorem yd5 : UnR X (unaryOp .USub) (rU fun i => .int (-i)) := unI fun _ _ _ _ _ q => neg_int q
end
section
variable {X : Cx} {a b c : Expr} {ta tb tc : TE} {pos : Pos}
theorem zz1 {pins : List (Addr × Obj)} {σ : St} {H : Hp} {s : Shared} {Q : VK} {k k' : Bool} (I : Inv X pins σ H s) (q : Q (.bl k) H) (e : k = k') : EP X pins σ Q (.bool k') s := by
  subst e
  exact ⟨.bl k, H, I, rfl, q⟩
theorem ygk : OpR X (compareOp .Lt) (rI0 fun i j => .bl (decide (i < j))) := opB0 fun _ _ _ _ _ _ _ q => lt_int q
theorem ygj : OpR X (compareOp .LtE) (rI0 fun i j => .bl (decide (i <= j))) := opB0 fun _ _ _ _ _ _ _ q => le_int q
theorem ygi : OpR X (compareOp .Gt) (rI0 fun i j => .bl (decide (j < i))) := opB0 fun _ _ _ _ _ _ _ q => gt_int q
theorem op_ge : OpR X (compareOp .GtE) (rI0 fun i j => .bl (decide (j <= i))) := opB0 fun _ _ _ _ _ _ _ q => ge_int q
theorem yb9 : OpR X (compareOp .Is) (fun x y H Q => y = .non /\ Q (.bl (decide (x = .non))) H) := by
  intro pins s σ H x y v u Q I rx ry h
  obtain ⟨rfl, q⟩ := h
  cases ry
  refine is_none_gen (zz1 I q ?_)
  cases x <;> first
    | (cases rx; rfl)
    | (obtain ⟨t, rfl⟩ := rx; rfl)
theorem zv4 : OpR X (compareOp .IsNot) (fun x y H Q => y = .non /\ Q (.bl (!decide (x = .non))) H) := by
  intro pins s σ H x y v u Q I rx ry h
  obtain ⟨rfl, q⟩ := h
  cases ry
  refine isnot_none_gen (zz1 I q ?_)
  cases x <;> first
    | (cases rx; rfl)
    | (obtain ⟨t, rfl⟩ := rx; rfl)
theorem OpR.or {f : Value -> Value -> Sem Value} {r r' : R2} (h : OpR X f r) (h' : OpR X f r') : OpR X f (fun x y H Q => r x y H Q \/ r' x y H Q) := by
  intro pins s σ H x y v u Q I rx ry q
  rcases q with q | q
  · exact h pins s σ H x y v u Q I rx ry q
  · exact h' pins s σ H x y v u Q I rx ry q
theorem ybo (b : Expr) {op : CmpOp} (h : op ≠ .In := by decide) (h2 : op ≠ .NotIn := by decide) : behindInMarks op b = false := by
  have e1 : (op == CmpOp.In) = false := by cases op <;> first | rfl | exact absurd rfl h
  have e2 : (op == CmpOp.NotIn) = false := by cases op <;> first | rfl | exact absurd rfl h2
  cases b <;> simp [behindInMarks, e1, e2]
theorem zwa {op : CmpOp} {r : R2} (ho : OpR X (compareOp op) r) (ha : PE X a ta) (hb : PE X b tb) (hm : behindInMarks op b = false) : PE X (.Compare a [op] [b] pos) (tOp r ta tb) := by
  intro pins s σ H Q I h
  exact wpAny_Compare1 (binT ha hb I h fun v u s2 x y H2 I2 rx ry q => ho pins s2 σ H2 x y v u Q I2 rx ry q) hm
def tTest (t : TE) : TT := fun σ H Q => t σ H fun x H' => ∃ k, x = .bl k /\ Q k H'
theorem zwo {op : CmpOp} {r : R2} (ho : OpR X (compareOp op) r) (ha : PE X a ta) (hb : PE X b tb) (hm : behindInMarks op b = false) : PT X (.Compare a [op] [b] pos) (tTest (tOp r ta tb)) := by
  intro pins s σ H Q I h
  refine wpAny_isTrue_Compare1 (thn (ha pins s σ H _ I h) fun v s1 ⟨x, H1, I1, r1, q1⟩ => thn (hb pins s1 σ H1 _ I1 q1) fun u s2 ⟨y, H2, I2, r2, q2⟩ =>
    thn (ho pins s2 σ H2 x y v u _ I2 r1 r2 q2) fun c s3 ⟨z, H3, I3, r3, k, e, q3⟩ => ?_) hm
  subst e
  cases r3
  exact wpAny_truthy_bool ⟨H3, I3, q3⟩
def ydv (r r' : R2) (ta tb tc : TE) : TE := fun σ H Q => ta σ H fun x H1 => tb σ H1 fun y H2 => r x y H2 fun z H3 => ∃ k, z = .bl k /\
  (if k = true then tc σ H3 fun w' H4 => r' y w' H4 Q else Q (.bl false) H3)
theorem zqe {op op' : CmpOp} {r r' : R2} (ho : OpR X (compareOp op) r) (ho' : OpR X (compareOp op') r') (ha : PE X a ta) (hb : PE X b tb) (hc : PE X c tc)
    (hm : lastMarks [op, op'] [b, c] = false := by with_unfolding_all rfl) : PE X (.Compare a [op, op'] [b, c] pos) (ydv r r' ta tb tc) := by
  intro pins s σ H Q I h
  refine Compare_chain (thn (ha pins s σ H _ I h) fun v s1 ⟨x, H1, I1, r1, q1⟩ => chain_link (thn (hb pins s1 σ H1 _ I1 q1) fun u s2 ⟨y, H2, I2, r2, q2⟩ =>
    thn (ho pins s2 σ H2 x y v u _ I2 r1 r2 q2) fun d s3 ⟨z, H3, I3, r3, k, e, q3⟩ => ?_)) hm
  subst e
  cases r3
  refine wpAny_truthy_bool ?_
  cases k with
  | false => exact ite_ff ⟨.bl false, H3, I3, rfl, q3⟩
  | true => exact ite_tt (chain_last (thn (hc pins s3 σ H3 _ I3 q3) fun w' s4 ⟨z', H4, I4, r4, q4⟩ => ho' pins s4 σ H4 y z' u w' Q I4 r2 r4 q4))
theorem ya8 : (sizeLine : Nat) < 2 ^ 63 := by rw [sizeLine_eq]; decide
theorem zi7 : OpR X (binaryOp .Add) (fun x y H Q => ∃ i j, x = .str i /\ y = .str j /\ i.length + j.length <= sizeLine /\ Q (.str (i ++ j)) H) := by
  intro pins s σ H x y v u Q I rx ry h
  obtain ⟨i, j, rfl, rfl, hz, q⟩ := h
  obtain ⟨t, rfl⟩ := rx
  obtain ⟨t', rfl⟩ := ry
  exact add_str (fun t' tk => ⟨.str (i ++ j), H, I.tok _, ⟨_, rfl⟩, q⟩) hz
theorem yhg {x : V} {us : List Value} (r : yhw [x] us) : ∃ u, us = [u] /\ yhr x u := by
  cases r with
  | cons r1 r2 => cases r2; exact ⟨_, rfl, r1⟩
theorem yhh {x y : V} {us : List Value} (r : yhw [x, y] us) : ∃ u w', us = [u, w'] /\ yhr x u /\ yhr y w' := by
  cases r with
  | cons r1 r2 =>
    cases r2 with
    | cons r3 r4 => cases r4; exact ⟨_, _, rfl, r1, r3⟩
theorem zki (hc : X.calm = true) : yd8 X (.builtin "min") (fun xs H Q => ∃ i j, xs = [.int i, .int j] /\ Q (.int (if j < i then j else i)) H) := by
  intro pins s σ H xs us Q I r h
  obtain ⟨i, j, rfl, q⟩ := h
  obtain ⟨u, w', rfl, ⟨t, rfl⟩, ⟨t', rfl⟩⟩ := yhh r
  refine min_two_ints (I.ok.hd hc) fun h' tk k => ⟨_, H, I.kept k, ?_, q⟩
  by_cases hj : j < i
  · rw [if_pos hj, if_pos hj]; exact ⟨_, rfl⟩
  · rw [if_neg hj, if_neg hj]; exact ⟨_, rfl⟩
end
end L2
namespace L2
open PySem PySem.Spec PyProof.Rows
structure ObjM (h : Heap) (x dx C : Addr) (mA : Str -> Option Value) : Prop where
  obj : h.get? x = some (PySem.W.instObj C dx)
  ns : h.Ns1 dx mA
  ne : dx ≠ x
theorem zll {h : Heap} {dx : Addr} {mA : Str -> Option Value} (n : h.Ns1 dx mA) : ∃ od, h.get? dx = some od /\ ∀ name, PySem.W.lookIn name od = some (mA name) := by
  obtain ⟨o, es, ep, ho, hd, hk, _, hm⟩ := n
  refine ⟨o, ho, fun name => ?_⟩
  have e := hm name
  unfold nsFind findBy at e
  rw [<- Array.find?_toList] at e
  unfold PySem.W.lookIn
  rw [hd]
  dsimp only
  split
  · rename_i y q
    rw [q] at e
    exact congrArg some e
  · rename_i q
    rw [q] at e
    have a : es.toList.any (·.refKey) = false := by
      rw [List.any_eq_false]
      intro y hy
      obtain ⟨z, t, hkey⟩ := hk y (Array.mem_toList_iff.mp hy)
      simp [DictEntry.refKey, hkey]
    have a' : ¬ es.toList.any (·.refKey) = true := by rw [a]; exact Bool.false_ne_true
    rw [if_neg a']
    exact congrArg some e
theorem ObjM.look {h : Heap} {x dx C : Addr} {mA : Str -> Option Value} (I : ObjM h x dx C mA) : ∃ od, PySem.W.InstAt h x (PySem.W.instObj C dx) C (some od) /\ ∀ name, PySem.W.lookIn name od = some (mA name) :=
  let ⟨od, ho, hl⟩ := zll I.ns
  ⟨od, ⟨I.obj, rfl, rfl, ho⟩, hl⟩
section
variable {prog : Program} {w : World} {A : Around} {E : Value -> Shared -> Prop} {s : Shared} {K : PySem.W.Frag} {x dx C f : Addr} {mA : Str -> Option Value} {name : Str} {v : Value}
theorem zub {expr : Bool} {Q : Value -> Shared -> Prop} (X : K.In s.heap) (I : ObjM s.heap x dx C mA) (hg : PySem.W.plainGet K C name = true) (hh : PySem.W.hasDictIn K C = true)
    (ha : PySem.W.findIn K (.ref C) name = some none) (hv : mA name = some v) (hv' : PySem.W.handedIn v = true) (h : Q v { s with toks := s.toks + 1 }) :
    wpAny (model prog w) A (getAttr (.ref x) name expr) Q E s := by
  obtain ⟨od, J, hl⟩ := I.look
  exact PySem.W.get_value X J (PySem.W.plainGet_of hg).1 (PySem.W.findObj_own hh ha rfl (by rw [hl, hv])) hv' h
theorem zo0 {pl : Sem Bool} {Q : Value × List Value -> Shared -> Prop} (X : K.In s.heap) (I : ObjM s.heap x dx C mA) (hg : PySem.W.plainGet K C name = true)
    (hf : PySem.W.findIn K (.ref C) name = some (some (.ref f))) (ht : PySem.W.isFn K (.ref f) = true) (hv : mA name = none) (h : Q (.ref f, [.ref x]) s) :
    wpAny (model prog w) A (getMethod (.ref x) name pl) Q E s := by
  obtain ⟨od, J, hl⟩ := I.look
  exact PySem.W.method_fn X J (PySem.W.plainGet_of hg).1 (PySem.W.plainGet_of hg).2 hf (beq_iff_eq.mp ht) (by show (PySem.W.lookIn name od).map (·.isSome) = some false; rw [hl, hv]; rfl) h
theorem zxf {ns : List Str} {Q : Unit -> Shared -> Prop} (X : K.In s.heap) (I : ObjM s.heap x dx C mA)
    (hs : PySem.W.findIn K (.ref C) "__setattr__" = some (some (.builtin "object.__setattr__"))) (hp : PySem.W.plainOver K C = true) (ht : PySem.W.takerIn K C name = some none) (hh : PySem.W.hasDictIn K C = true)
    (hw : PySem.Within mA ns) (hsz : ns.length <= sizeLine)
    (h : ∀ h', ObjM h' x dx C (fun y => if y = name then some v else mA y) -> Heap.SameBut dx s.heap h' -> Q () { s with heap := h', toks := s.toks + 2 }) :
    wpAny (model prog w) A (setAttr (.ref x) name v) Q E s := by
  obtain ⟨od, J, hl⟩ := I.look
  refine PySem.W.set_plain X J hs (PySem.W.osa_open (s := { s with toks := s.toks + 1 }) (r := none) X J hp ht fun b => ?_)
  obtain ⟨cd, hc, hd'⟩ := PySem.W.any_some hh
  have hx : s.heap.get? x = some ⟨.ref C, some dx, .plain, #[]⟩ := I.obj
  refine wpAny_bind (wpAny_pure (wpAny_bind (wpAny_bind (wpAny_loadPart hx (wpAny_bind (PySem.W.Looks.here (s := { s with toks := s.toks + 1 }) (PySem.W.looks_clsIn X hc) ?_))))))
  rw [hd']
  refine wpAny_pure (a := some dx) (wpAny_bind (wpAny_pure (wpAny_bind ?_)))
  refine wpAny_nsSet1 (s := { s with toks := s.toks + 1 }) I.ns fun h' hn2 hs2 => ?_
  obtain ⟨oD, esD, epD, hoD, hdD, hcD⟩ := hn2.count (PySem.Within.cons name v hw)
  refine wpAny_bind (wpAny_lookBehind hoD (by rw [hdD]; exact pastItsLine_dict (Nat.le_trans hcD (by rw [List.length_cons]; omega))) ?_)
  exact wpAny_pure (h _ ⟨(hs2.2 _ (Ne.symm I.ne)).trans I.obj, hn2, I.ne⟩ hs2)
theorem zpp {R : Result -> Shared -> Prop} {vs : List Value} {kw : List (Str × Value)} (X : K.In s.heap) (hm : PySem.W.makesIn K C = true)
    (hi : PySem.W.findIn K (.ref C) "__init__" = some (some (.ref f))) (hf : PySem.W.typeIn K (.ref f) = some (.type "function"))
    (h : codeAny (model prog w) (A.under (.builtin "type.__call__" ⟨.ref C :: vs, kw⟩)) (.call (.ref f) ⟨.ref (s.heap.objs.size + 1) :: vs, kw⟩) (PySem.W.InitBack (s.heap.objs.size + 1) R)
      { s with heap := (s.heap.push PySem.W.emptyDict).push (PySem.W.instObj C s.heap.objs.size) }) :
    codeAny (model prog w) A (.call (.ref C) ⟨vs, kw⟩) R s := by
  obtain ⟨hh, g, d, t, os⟩ := s
  exact PySem.W.make_core (PySem.W.makes_of X hm) (PySem.W.looks_findIn X hi) (fun self => PySem.W.bind_fn X self hf) (.inl rfl) h
end
def yjd (f : Str) (v : V) : List (Str × V) -> List (Str × V)
  | [] => [(f, v)]
  | (g, x) :: r => if g = f then (g, v) :: r else (g, x) :: yjd f v r
theorem zgv (f g : Str) (v : V) : ∀ fs : List (Str × V), (yjd f v fs).lookup g = if g = f then some v else fs.lookup g
  | [] => by
    show List.lookup g [(f, v)] = _
    by_cases h : g = f
    · have hb : (g == f) = true := beq_iff_eq.mpr h
      simp only [List.lookup, hb, if_pos h]
    · have hb : (g == f) = false := beq_eq_false_iff_ne.mpr h
      simp only [List.lookup, hb, if_neg h]
  | (k, x) :: r => by
    have ih := zgv f g v r
    rw [show yjd f v ((k, x) :: r) = (if k = f then (k, v) :: r else (k, x) :: yjd f v r) from rfl]
    by_cases hk : k = f
    · rw [if_pos hk]
      by_cases h : g = k
      · have hb : (g == k) = true := beq_iff_eq.mpr h
        simp only [List.lookup, hb, if_pos (h.trans hk)]
      · have hb : (g == k) = false := beq_eq_false_iff_ne.mpr h
        simp only [List.lookup, hb, if_neg (fun e : g = f => h (e.trans hk.symm))]
    · rw [if_neg hk]
      by_cases h : g = k
      · have hb : (g == k) = true := beq_iff_eq.mpr h
        simp only [List.lookup, hb, if_neg (fun e : g = f => hk (h.symm.trans e))]
      · have hb : (g == k) = false := beq_eq_false_iff_ne.mpr h
        simp only [List.lookup, hb]
        exact ih
theorem zlh (f : Str) (v : V) : ∀ fs : List (Str × V), f ∈ (yjd f v fs).map (·.1) /\ ∀ g, g ∈ fs.map (·.1) -> g ∈ (yjd f v fs).map (·.1)
  | [] => ⟨by simp [yjd], fun g h => by simp at h⟩
  | (k, x) :: r => by
    obtain ⟨i1, i2⟩ := zlh f v r
    rw [show yjd f v ((k, x) :: r) = (if k = f then (k, v) :: r else (k, x) :: yjd f v r) from rfl]
    by_cases hk : k = f
    · rw [if_pos hk]
      subst hk
      exact ⟨by simp, fun g h => by simpa using h⟩
    · rw [if_neg hk]
      refine ⟨?_, fun g h => ?_⟩
      · rw [List.map_cons]
        exact List.mem_cons_of_mem _ i1
      · rw [List.map_cons] at h ⊢
        rcases List.mem_cons.mp h with e | e
        · exact List.mem_cons.mpr (.inl e)
        · exact List.mem_cons_of_mem _ (i2 g e)
theorem zgt (f : Str) (v : V) : ∀ fs : List (Str × V), (yjd f v fs).length <= fs.length + 1
  | [] => by simp [yjd]
  | (k, x) :: r => by
    have ih := zgt f v r
    rw [show yjd f v ((k, x) :: r) = (if k = f then (k, v) :: r else (k, x) :: yjd f v r) from rfl]
    by_cases hk : k = f
    · rw [if_pos hk, List.length_cons, List.length_cons]; omega
    · rw [if_neg hk, List.length_cons, List.length_cons]; omega
theorem yhq.some_of {v : V} {o : Option Value} (r : yhq (some v) o) : ∃ u, o = some u /\ yhr v u := by
  cases o with
  | none => exact (show False from r).elim
  | some u => exact ⟨u, rfl, r⟩
theorem yhq.none_of {o : Option Value} (r : yhq none o) : o = none := by
  cases o with
  | none => rfl
  | some u => exact (show False from r).elim
theorem zk5 {v : V} {u : Value} (r : yhr v u) : PySem.W.handedIn u = true := by
  cases v with
  | non => cases (show u = Value.none from r); rfl
  | bl b => cases (show u = Value.bool b from r); rfl
  | int i => obtain ⟨t, e⟩ := (show ∃ t, u = Value.int i t from r); cases e; rfl
  | str x => obtain ⟨t, e⟩ := (show ∃ t, u = Value.str x t from r); cases e; rfl
  | byt b => obtain ⟨t, e⟩ := (show ∃ t, u = Value.bytes b t from r); cases e; rfl
  | flt b => obtain ⟨t, e⟩ := (show ∃ t, u = Value.float b t from r); cases e; rfl
  | ref a => cases (show u = Value.ref a from r); rfl
  | ty n => cases (show u = Value.type n from r); rfl
section
variable {P : Program} {w : World} {H H' : Hp} {h h' : Heap} {a C dx : Addr} {fs fs' : List (Str × V)}
theorem zuk (hok : HOk P w H h) (e : H a = some (.ins C dx fs)) : ∃ mA, ObjM h a dx C mA /\ (∀ f, yhq (fs.lookup f) (mA f)) /\ PySem.Within mA (fs.map (·.1)) /\ fs.length <= 1000 /\ H dx = some (.own a) := by
  obtain ⟨d, z, ne, ob, mA, n, r, q⟩ := (show yed P w H h a (.ins C dx fs) from hok a _ e)
  exact ⟨mA, ⟨ob, n, ne⟩, r, q, z, d⟩
end
structure Cls (K : PySem.W.Frag) (C : Addr) : Prop where
  pg : PySem.W.plainGet K C Str.empty = true
  hd : PySem.W.hasDictIn K C = true
  po : PySem.W.plainOver K C = true
  sa : PySem.W.findIn K (.ref C) "__setattr__" = some (some (.builtin "object.__setattr__"))
theorem Cls.get {K : PySem.W.Frag} {C : Addr} (c : Cls K C) (f : Str) : PySem.W.plainGet K C f = true := c.pg
def zyf (K : PySem.W.Frag) (C : Addr) (f : Str) : Prop := PySem.W.findIn K (.ref C) f = some none
theorem zyf.taker {K : PySem.W.Frag} {C : Addr} {f : Str} (n : zyf K C f) : PySem.W.takerIn K C f = some none := by
  unfold PySem.W.takerIn
  rw [show PySem.W.findIn K (.ref C) f = some none from n]
  rfl
structure Con (K : PySem.W.Frag) (C : Addr) (f : Str) (v : V) (u : Value) : Prop where
  at_ : PySem.W.findIn K (.ref C) f = some (some u)
  rel : yhr v u
  get : PySem.W.specialIn K u "__get__" = some none
  cp : PySem.W.copiedNames.contains f = false
structure Meth (K : PySem.W.Frag) (C : Addr) (m : Str) (f : Addr) : Prop where
  at_ : PySem.W.findIn K (.ref C) m = some (some (.ref f))
  fn : PySem.W.isFn K (.ref f) = true
  kp : PySem.W.keepIn K (.ref f) = true
section
variable {X : Cx} {pins : List (Addr × Obj)} {σ : St} {H : Hp} {s : Shared} {a C dx : Addr} {fs : List (Str × V)} {f : Str} {v : V} {A : Around} {E : Value -> Shared -> Prop}
theorem zik {b : Bool} {Q : Value -> Shared -> Prop} (I : Inv X pins σ H s) (e : H a = some (.ins C dx fs)) (c : Cls X.K C) (n : zyf X.K C f) (l : fs.lookup f = some v)
    (h : ∀ u s', Inv X pins σ H s' -> yhr v u -> Q u s') : wpAny (model X.prog X.w) A (getAttr (.ref a) f b) Q E s := by
  obtain ⟨mA, O, r, _, _, _⟩ := zuk I.hok e
  obtain ⟨u, hu, ru⟩ := yhq.some_of (v := v) (o := mA f) (by rw [<- l]; exact r f)
  exact zub I.kIn O (c.get f) c.hd n hu (zk5 ru) (h u _ (I.tok _) ru)
theorem zil {m : Str} {g : Addr} {pl : Sem Bool} {Q : Value × List Value -> Shared -> Prop} (I : Inv X pins σ H s) (e : H a = some (.ins C dx fs)) (c : Cls X.K C) (k : Meth X.K C m g) (l : fs.lookup m = none)
    (h : Q (.ref g, [.ref a]) s) : wpAny (model X.prog X.w) A (getMethod (.ref a) m pl) Q E s := by
  obtain ⟨mA, O, r, _, _, _⟩ := zuk I.hok e
  have hn : mA m = none := yhq.none_of (by rw [<- l]; exact r m)
  exact zo0 I.kIn O (c.get m) k.at_ k.fn hn h
theorem zjr {y : V} {u : Value} {Q : Unit -> Shared -> Prop} (I : Inv X pins σ H s) (e : H a = some (.ins C dx fs)) (c : Cls X.K C) (n : zyf X.K C f) (hl : fs.length < 1000) (ry : yhr y u)
    (h : ∀ s', Inv X pins σ (upd H a (.ins C dx (yjd f y fs))) s' -> Q () s') : wpAny (model X.prog X.w) A (setAttr (.ref a) f u) Q E s := by
  obtain ⟨mA, O, r, wi, _, ho⟩ := zuk I.hok e
  have hz : (fs.map (·.1)).length <= sizeLine := by rw [List.length_map, sizeLine_eq]; omega
  refine zxf I.kIn O c.sa c.po n.taker c.hd wi hz fun h' O' sb => h _ ?_
  have hd : ∃ o, h'.get? dx = some o := let ⟨o, _, _, e', _⟩ := O'.ns; ⟨o, e'⟩
  refine I.write (x := a) (e := dx) (by rw [e]; exact True.intro) (.inr ho) (fun b q hb z => (sb.2 b hb).trans z) hd ?_
  refine ⟨by rw [upd_ne O.ne]; exact ho, ?_, O.ne, O'.obj, _, O'.ns, fun g => ?_, fun g hg => ?_⟩
  · have := zgt f y fs; omega
  · show yhq ((yjd f y fs).lookup g) (if g = f then some u else mA g)
    rw [zgv]
    by_cases q : g = f
    · rw [if_pos q, if_pos q]; exact ry
    · rw [if_neg q, if_neg q]; exact r g
  · by_cases q : g = f
    · rw [q]; exact (zlh f y fs).1
    · refine (zlh f y fs).2 g (wi g fun z => hg ?_)
      show (if g = f then some u else mA g) = none
      rw [if_neg q]; exact z
theorem Inv.made (I : Inv X pins σ H s) : Inv X pins σ (upd (upd H s.heap.objs.size (.own (s.heap.objs.size + 1))) (s.heap.objs.size + 1) (.ins C s.heap.objs.size []))
    { s with heap := (s.heap.push PySem.W.emptyDict).push (PySem.W.instObj C s.heap.objs.size) } := by
  have e1 : (s.heap.push PySem.W.emptyDict).get? s.heap.objs.size = some PySem.W.emptyDict := Heap.get?_push_size s.heap rfl
  have e2 : ((s.heap.push PySem.W.emptyDict).push (PySem.W.instObj C s.heap.objs.size)).get? (s.heap.objs.size + 1) = some (PySem.W.instObj C s.heap.objs.size) := by
    have := Heap.get?_push_size (s.heap.push PySem.W.emptyDict) (o := PySem.W.instObj C s.heap.objs.size) rfl
    rwa [Heap.size_push] at this
  have e3 : (s.heap.push PySem.W.emptyDict).Ns s.heap.objs.size (fun _ => none) := ⟨PySem.W.emptyDict, #[], _, e1, rfl, (fun e he => absurd he (by simp)), fun _ => rfl⟩
  have I1 := I.laid (a := s.heap.objs.size) (o := .own (s.heap.objs.size + 1)) (h' := s.heap.push PySem.W.emptyDict) (t' := s.toks) (fun b u q => Heap.get?_push_of_some _ q) (Nat.le_refl _) ⟨_, e1⟩
  refine I1.laid (a := s.heap.objs.size + 1) (o := .ins C s.heap.objs.size []) (t' := s.toks) (fun b u q => Heap.get?_push_of_some _ q) (Nat.le_of_eq (Heap.size_push _ _)) ?_
  have ne : s.heap.objs.size ≠ s.heap.objs.size + 1 := Nat.ne_of_lt (Nat.lt_succ_self _)
  refine ⟨by rw [upd_ne ne, upd_same], Nat.zero_le _, ne, e2, fun _ => none, (Heap.Ns1.of_empty e3).at fun o q => Heap.get?_push_of_some _ q, fun _ => True.intro, fun y hy => absurd rfl hy⟩
theorem zsb {prog : Program} {w : World} {env : Env} {e : Expr} {f : Str} {pos : Pos} {s : Shared} {Q : Value -> Shared -> Prop} (hb : attributeBase e f env (eval e env) = eval e env)
    (h : wpAny (model prog w) A (eval e env) (fun o s₁ => wpAny (model prog w) A (getAttr o f true) Q E s₁) E s) : wpAny (model prog w) A (eval (.Attribute e f pos) env) Q E s :=
  Attribute_any_ h (by rw [arm_eval_Attribute, hb])
end
def tFld (K : PySem.W.Frag) (ta : TE) (f : Str) : TE := fun σ H Q => ta σ H fun x H1 => ∃ a C dx fs v, x = .ref a /\ H1 a = some (.ins C dx fs) /\ Cls K C /\ zyf K C f /\ fs.lookup f = some v /\ Q v H1
def sFld (K : PySem.W.Frag) (ta tv : TE) (f : Str) : TS := fun D σ H => tv σ H fun y H1 => ta σ H1 fun x H2 => ∃ a C dx fs, x = .ref a /\ H2 a = some (.ins C dx fs) /\ Cls K C /\ zyf K C f /\ fs.length < 1000 /\
  D.nx σ (upd H2 a (.ins C dx (yjd f y fs)))
def InOp (X : Cx) (op : Operator) (rd : V -> V -> Hp -> VK -> Prop) : Prop :=
  ∀ (pins : List (Addr × Obj)) (s : Shared) (σ : St) (H : Hp) (x y : V) (u v : Value) (Q : VK), Inv X pins σ H s -> yhr x u -> yhr y v -> rd x y H Q -> wpAny (model X.prog X.w) X.A (inplaceOp op u v) (EP X pins σ Q) X.xe s
def zw0 (K : PySem.W.Frag) (ta tv : TE) (rd : V -> V -> Hp -> VK -> Prop) (f : Str) : TS := fun D σ H => ta σ H fun x H1 => ∃ a C dx fs v, x = .ref a /\ H1 a = some (.ins C dx fs) /\ Cls K C /\ zyf K C f /\ fs.lookup f = some v /\
  tv σ H1 fun y H2 => rd v y H2 fun z H3 => ∃ dx' fs', H3 a = some (.ins C dx' fs') /\ fs'.length < 1000 /\ D.nx σ (upd H3 a (.ins C dx' (yjd f z fs')))
section
variable {X : Cx} {o e value : Expr} {f : Str} {pos pos' tpos : Pos} {ta tv : TE}
theorem ycj (he : PE X e ta) (hb : attributeBase e f X.env (eval e X.env) = eval e X.env) : PE X (.Attribute e f pos) (tFld X.K ta f) := by
  intro pins s σ H Q I h
  refine zsb hb (thn (he pins s σ H _ I h) fun u s1 ⟨x, H1, I1, rx, a, C, dx, fs, v, ex, ea, c, n, l, q⟩ => ?_)
  subst ex
  obtain rfl : u = Value.ref a := rx
  exact zik I1 ea c n l fun u' s2 I2 ru => ⟨v, H1, I2, ru, q⟩
theorem ycy (ha : PE X o ta) (hv : PE X value tv) (hs : swapsWith value (some (.Attribute o f pos')) pos.line X.env = pure false) : PS X (.Assign [.Attribute o f pos'] value pos) (sFld X.K ta tv f) := by
  intro pins s σ H D I h
  refine plainObj_wpAny_Assign_Attribute (thn (hv pins s σ H _ I h) fun u s1 ⟨y, H1, I1, ry, q⟩ => thn (ha pins s1 σ H1 _ I1 q) fun ov s2 ⟨x, H2, I2, rx, a, C, dx, fs, ex, ea, c, n, l, q2⟩ => ?_) hs
  subst ex
  obtain rfl : ov = Value.ref a := rx
  exact zjr I2 ea c n l ry fun s3 I3 => ⟨σ, _, I3, q2⟩
theorem zmd {op : Operator} {rd : V -> V -> Hp -> VK -> Prop} (ha : PE X o ta) (hv : PE X value tv) (hop : InOp X op rd) : PS X (.AugAssign (.Attribute o f tpos) op value pos) (zw0 X.K ta tv rd f) := by
  intro pins s σ H D I h
  refine wpAny_AugAssign_AttributeAny (thn (ha pins s σ H _ I h) fun ov s1 ⟨x, H1, I1, rx, a, C, dx, fs, v, ex, ea, c, n, l, q⟩ => ?_)
  subst ex
  obtain rfl : ov = Value.ref a := rx
  refine zik I1 ea c n l fun u s2 I2 ru => thn (hv pins s2 σ H1 _ I2 q) fun w3 s3 ⟨y, H2, I3, ry, q3⟩ => thn (hop pins s3 σ H2 v y u w3 _ I3 ru ry q3) fun w4 s4 ⟨z, H3, I4, rz, dx', fs', ea', l', q4⟩ => ?_
  exact zjr I4 ea' c n l' rz fun s5 I5 => ⟨σ, _, I5, q4⟩
def rAdd : V -> V -> Hp -> VK -> Prop := fun x y H Q => ∃ i j, x = .int i /\ y = .int j /\ Q (.int (i + j)) H
theorem yao : InOp X .Add rAdd := by
  rintro pins s σ H x y u v Q I rx ry ⟨i, j, rfl, rfl, q⟩
  obtain ⟨t, rfl⟩ := (show ∃ t, u = Value.int i t from rx)
  obtain ⟨t', rfl⟩ := (show ∃ t', v = Value.int j t' from ry)
  exact PyProof.Rows.iadd_int ⟨.int (i + j), H, I.tok _, ⟨_, rfl⟩, q⟩
end
section
variable {X : Cx} {pins : List (Addr × Obj)} {σ : St} {H : Hp} {s : Shared} {A : Around} {E : Value -> Shared -> Prop} {Q : Value -> Shared -> Prop} {c : Value} {b : Bool}
inductive TyOf (K : PySem.W.Frag) (H : Hp) : V -> Value -> Prop where
  | non : TyOf K H .non (.type "NoneType")
  | bl (x : Bool) : TyOf K H (.bl x) (.type "bool")
  | int (i : Int) : TyOf K H (.int i) (.type "int")
  | str (x : Str) : TyOf K H (.str x) (.type "str")
  | flt (x : UInt64) : TyOf K H (.flt x) (.type "float")
  | lst {a : Addr} {xs : List V} (e : H a = some (.lst xs)) : TyOf K H (.ref a) (.type "list")
  | frz {a : Addr} {o : Obj} {xs : List V} (e : H a = some (.frz o (.lst xs))) : TyOf K H (.ref a) (.type "list")
  | tup {a : Addr} {xs : List V} (e : H a = some (.tup xs)) : TyOf K H (.ref a) (.type "tuple")
  | dK {a : Addr} {kvs : List (Key × V)} (e : H a = some (.dK kvs)) : TyOf K H (.ref a) (.type "dict")
  | dT {a : Addr} {kvs : List (List Key × V)} (e : H a = some (.dT kvs)) : TyOf K H (.ref a) (.type "dict")
  | ins {a C dx : Addr} {fs : List (Str × V)} (e : H a = some (.ins C dx fs)) (cl : Cls K C) (ha : PySem.W.findIn K (.ref C) "__class__" = some (some (.builtin "object.__class__")))
      (hn : PySem.W.specialIn K (.builtin "object.__class__") "__get__" = some (some (.builtin "getset_descriptor.__get__"))) (htk : PySem.W.takesIn K (.builtin "object.__class__") = some true)
      (hm : PySem.W.mroIn K C (.type "object") = some true) : TyOf K H (.ref a) (.ref C)
theorem zlc {x : V} {u t : Value} (I : Inv X pins σ H s) (rx : yhr x u) (ty : TyOf X.K H x t) (e : PySem.W.kitOne X.K t c = some b) (h : ∀ tk, Q (.bool b) { s with toks := tk }) :
    wpAny (model X.prog X.w) A (call (.builtin "isinstance") [u, c]) Q E s := by
  cases ty with
  | non => cases (show u = Value.none from rx); exact PySem.W.kia_one PySem.W.kitx_none I.kIn True.intro e (fun z => nomatch z) h
  | bl y => cases (show u = Value.bool y from rx); exact PySem.W.kia_one PySem.W.kitx_bool I.kIn True.intro e (fun z => nomatch z) h
  | int i => obtain ⟨t, q⟩ := (show ∃ t, u = Value.int i t from rx); cases q; exact PySem.W.kia_one PySem.W.kitx_int I.kIn True.intro e (fun z => nomatch z) h
  | str y => obtain ⟨t, q⟩ := (show ∃ t, u = Value.str y t from rx); cases q; exact PySem.W.kia_one PySem.W.kitx_str I.kIn True.intro e (fun z => nomatch z) h
  | flt y => obtain ⟨t, q⟩ := (show ∃ t, u = Value.float y t from rx); cases q; exact PySem.W.kia_one PySem.W.kitx_float I.kIn True.intro e (fun z => nomatch z) h
  | @lst a xs ea =>
    cases (show u = Value.ref a from rx)
    obtain ⟨_, _, n, _, h1⟩ := (show yed X.prog X.w H s.heap a (.lst xs) from I.hok a _ ea)
    exact PySem.W.kia_one PySem.W.kitx_list I.kIn ⟨_, h1, rfl⟩ e (fun z => nomatch z) h
  | @frz a ob xs ea =>
    cases (show u = Value.ref a from rx)
    obtain ⟨_, _, _, n, _, h1⟩ := (show yed X.prog X.w H s.heap a (.frz ob (.lst xs)) from I.hok a _ ea)
    exact PySem.W.kia_one PySem.W.kitx_list I.kIn ⟨_, h1, rfl⟩ e (fun z => nomatch z) h
  | @tup a xs ea =>
    cases (show u = Value.ref a from rx)
    obtain ⟨_, _, _, p⟩ := (show yed X.prog X.w H s.heap a (.tup xs) from I.hok a _ ea)
    obtain ⟨o, h1, h2, _⟩ := p
    exact PySem.W.kia_one PySem.W.kitx_tuple I.kIn ⟨o, h1, h2⟩ e (fun z => nomatch z) h
  | @dK a kvs ea =>
    cases (show u = Value.ref a from rx)
    obtain ⟨_, _, vs, _, p⟩ := (show yed X.prog X.w H s.heap a (.dK kvs) from I.hok a _ ea)
    obtain ⟨o, es, ep, h1, h2, _⟩ := p
    exact PySem.W.kia_one PySem.W.kitx_dict I.kIn ⟨o, h1, h2.1⟩ e (fun z => nomatch z) h
  | @dT a kvs ea =>
    cases (show u = Value.ref a from rx)
    obtain ⟨_, _, xs, _, o, es, ep, h1, h2, _⟩ := (show yed X.prog X.w H s.heap a (.dT kvs) from I.hok a _ ea)
    exact PySem.W.kia_one PySem.W.kitx_dict I.kIn ⟨o, h1, h2.1⟩ e (fun z => nomatch z) h
  | @ins a C dx fs ea cl ha hn htk hm =>
    cases (show u = Value.ref a from rx)
    obtain ⟨mA, O, _⟩ := zuk I.hok ea
    obtain ⟨od, J, _⟩ := O.look
    exact PySem.W.kia_one (PySem.W.kitx_own (cl.get _) cl.hd ha hn htk hm) I.kIn J e (fun z => nomatch z) h
end
end L2
namespace L2
open PySem PySem.Spec PyProof.Rows
structure Room (k : Nat) (A : Around) : Prop where
  hd : A.handled = none
  dp : A.depth + 3 * k + 5 < recursionLimit
  un : A.units + 16 * k + 200 < cLine
theorem Room.mono {j k : Nat} {A : Around} (r : Room k A) (h : j <= k) : Room j A := ⟨r.hd, by have := r.dp; omega, by have := r.un; omega⟩
theorem Room.deeper {k : Nat} {A : Around} (r : Room (k + 1) A) (env : Env) : Room k (A.deeper env) :=
  ⟨r.hd, by have := r.dp; show A.depth + 1 + 3 * k + 5 < _; omega, by have := r.un; show A.units + 3 + 16 * k + 200 < _; omega⟩
theorem Room.in1 {k : Nat} {A : Around} (r : Room (k + 1) A) : Room k A.in1 :=
  ⟨r.hd, by have := r.dp; show A.depth + 3 * k + 5 < _; omega, by have := r.un; show A.units + 1 + 16 * k + 200 < _; omega⟩
theorem ziu {A : Around} {C : Addr} {us : List Value} {kw : List (Str × Value)} : (A.under (.builtin "type.__call__" ⟨.ref C :: us, kw⟩)).depth = A.depth + 1 := by
  first | rfl | simp [Around.under, Code.weight, Code.isCreation, Code.isGuard, Code.isCaller, Code.frames, Code.isFrame, guardIds]
theorem ziw {A : Around} {C : Addr} {us : List Value} {kw : List (Str × Value)} : (A.under (.builtin "type.__call__" ⟨.ref C :: us, kw⟩)).units = A.units + 1 := by
  first | rfl | simp [Around.under, Code.cUnits, Code.frames, Code.isFrame]
theorem Room.make {k : Nat} {A : Around} (r : Room (k + 1) A) (C : Addr) (us : List Value) (kw : List (Str × Value)) : Room k (A.under (.builtin "type.__call__" ⟨.ref C :: us, kw⟩)) :=
  ⟨r.hd, by have := r.dp; rw [ziu]; omega, by have := r.un; rw [ziw]; omega⟩
theorem Room.depth {k : Nat} {A : Around} (r : Room k A) : A.depth < recursionLimit := by have := r.dp; omega
theorem Room.units {k : Nat} {A : Around} (r : Room k A) : A.units + 64 < cLine := by have := r.un; omega
def tNil : TA := fun _ H Q => Q [] H
def tCons (ta : TE) (tr : TA) : TA := fun σ H Q => ta σ H fun x H1 => tr σ H1 fun xs H2 => Q (x :: xs) H2
section
variable {X : Cx} {e : Expr} {es : List Expr} {te : TE} {t : TA} {pos : Pos}
theorem ych : PA X [] tNil := fun _ _ _ _ H Q I h => Calls.spliced_nil ⟨[], H, I, .nil, h⟩
theorem zv7 (ha : PE X e te) (hr : PA X es t) (hs : starEach (e :: es) X.env = (false, eval e X.env) :: starEach es X.env := by rfl) : PA X (e :: es) (tCons te t) := by
  intro pos pins s σ H Q I h
  rw [hs]
  show wpAny _ _ (spliced ((false, eval e X.env) :: backTo pos (starEach es X.env))) _ _ s
  refine Calls.spliced_cons (thn (ha pins s σ H _ I h) fun u s1 ⟨x, H1, I1, r1, q1⟩ => ?_)
  exact thn (hr pos pins s1 σ H1 _ I1 q1) fun us s2 ⟨xs, H2, I2, r2, q2⟩ => ⟨x :: xs, H2, I2, .cons r1 r2, q2⟩
def tTup (t : TA) : TE := fun σ H Q => t σ H fun xs H1 => xs.length <= sizeLine /\ ∀ p, H1 p = none -> Q (.ref p) (upd H1 p (.tup xs))
def tLst (t : TA) : TE := fun σ H Q => t σ H fun xs H1 => xs.length <= sizeLine /\ ∀ p, H1 p = none -> Q (.ref p) (upd H1 p (.lst xs))
theorem ycq {x1} (h : PA X es t) : PE X (.Tuple es x1 pos) (tTup t) := by
  intro pins s σ H Q I hq
  refine wpAny_Tuple_spliced (thn (h pos pins s σ H _ I hq) fun us s1 ⟨xs, H1, I1, r, z, q⟩ => ⟨by rw [<- r.length]; exact z, ?_⟩)
  have hf : H1 s1.heap.objs.size = none := I1.hok.fresh (Nat.le_refl _)
  refine ⟨.ref s1.heap.objs.size, upd H1 s1.heap.objs.size (.tup xs), I1.laid (t' := s1.toks) (fun b u e => Heap.get?_push_of_some _ e) (Nat.le_refl _) ?_, rfl, q _ hf⟩
  exact ⟨z, us, r, ⟨_, Heap.get?_push_size _ rfl, rfl, _, rfl⟩⟩
theorem ycl (h : PA X es t) : PE X (.List es pos) (tLst t) := by
  intro pins s σ H Q I hq
  refine wpAny_List_spliced (thn (h pos pins s σ H _ I hq) fun us s1 ⟨xs, H1, I1, r, z, q⟩ => ⟨by rw [<- r.length]; exact z, ?_⟩)
  have hf : H1 s1.heap.objs.size = none := I1.hok.fresh (Nat.le_refl _)
  refine ⟨.ref s1.heap.objs.size, upd H1 s1.heap.objs.size (.lst xs), I1.laid (t' := s1.toks) (fun b u e => Heap.get?_push_of_some _ e) (Nat.le_refl _) ?_, rfl, q _ hf⟩
  exact ⟨z, us, 0, r, Heap.get?_push_size _ rfl⟩
end
abbrev Sp := List V -> Hp -> VK -> XK -> Prop
abbrev CXT := List Env -> Hp -> Shared -> XK -> Value -> Shared -> Prop
structure Env0 (P : Program) (w : World) (K : PySem.W.Frag) (mg : Str -> Option Value) (base : Heap) (A : Around) (outer : List Env) (s : Shared) (H : Hp) : Prop where
  frames : A.frames = some outer
  mod : Mod K mg base
  bs : ∀ b o, base.get? b = some o -> s.heap.get? b = some o /\ H b = none
  bsz : base.objs.size <= s.heap.objs.size
  funs : s.heap.FunFrames base outer
  frf : ∀ b ∈ frs outer, H b = none
  hok : HOk P w H s.heap
  bare : AllBare s.gens
def CE (outer : List Env) (P : Program) (w : World) (H : Hp) (s : Shared) (Q : VK) (u : Value) (s' : Shared) : Prop :=
  ∃ v H', s'.os = s.os /\ AllBare s'.gens /\ Un (frs outer) [] H H' s.heap s'.heap /\ HOk P w H' s'.heap /\ yhr v u /\ Q v H'
def CR (CX : CXT) (outer : List Env) (P : Program) (w : World) (H : Hp) (s : Shared) (Q : VK) (E : XK) (r : Result) (s' : Shared) : Prop :=
  match r with
  | .ok (.ret u) => CE outer P w H s Q u s'
  | .ok _ => False
  | .error e => CX outer H s E e s'
structure FnOk (P : Program) (w : World) (K : PySem.W.Frag) (mg : Str -> Option Value) (base : Heap) (CX : CXT) (k : Nat) (f : Addr) (fd : FuncData) (ps : List Str) (sp : Sp) : Prop where
  len : ∀ vs H Q E, sp vs H Q E -> vs.length = ps.length
  run : ∀ (A : Around) (outer : List Env) (s : Shared) (H : Hp) (args : Args) (us : List Value) (vs : List V) (Q : VK) (E : XK), Room k A -> Env0 P w K mg base A outer s H -> BindsTo s fd args (ps.zip us) -> yhw vs us -> sp vs H Q E ->
    codeAny (model P w) A (.call (.ref f) args) (CR CX outer P w H s Q E) s
theorem FnOk.mono {P : Program} {w : World} {K : PySem.W.Frag} {mg : Str -> Option Value} {base : Heap} {CX : CXT} {j k : Nat} {f : Addr} {fd : FuncData} {ps : List Str} {sp : Sp} (F : FnOk P w K mg base CX j f fd ps sp) (h : j <= k) :
    FnOk P w K mg base CX k f fd ps sp := ⟨F.len, fun A outer s H args us vs Q E hr => F.run A outer s H args us vs Q E (hr.mono h)⟩
theorem FnOk.imp {P : Program} {w : World} {K : PySem.W.Frag} {mg : Str -> Option Value} {base : Heap} {CX : CXT} {k : Nat} {f : Addr} {fd : FuncData} {ps : List Str} {sp sp' : Sp} (F : FnOk P w K mg base CX k f fd ps sp)
    (h : ∀ vs H Q E, sp' vs H Q E -> sp vs H Q E) : FnOk P w K mg base CX k f fd ps sp' :=
  ⟨fun vs H Q E q => F.len vs H Q E (h _ _ _ _ q), fun A outer s H args us vs Q E hr he hb hv hs => F.run A outer s H args us vs Q E hr he hb hv (h _ _ _ _ hs)⟩
theorem Env0.make {P : Program} {w : World} {K : PySem.W.Frag} {mg : Str -> Option Value} {base : Heap} {A : Around} {outer : List Env} {s : Shared} {H : Hp} (e : Env0 P w K mg base A outer s H) (C : Addr) (us : List Value) (kw : List (Str × Value)) :
    Env0 P w K mg base (A.under (.builtin "type.__call__" ⟨.ref C :: us, kw⟩)) outer s H := ⟨by first | exact e.frames | (simpa [Around.under, Code.envs, Code.isFrame, pushEnvs] using e.frames), e.mod, e.bs, e.bsz, e.funs, e.frf, e.hok, e.bare⟩
theorem Env0.in1 {P : Program} {w : World} {K : PySem.W.Frag} {mg : Str -> Option Value} {base : Heap} {A : Around} {outer : List Env} {s : Shared} {H : Hp} (e : Env0 P w K mg base A outer s H) :
    Env0 P w K mg base A.in1 outer s H := ⟨e.frames, e.mod, e.bs, e.bsz, e.funs, e.frf, e.hok, e.bare⟩
section
variable {X : Cx} {pins : List (Addr × Obj)} {σ : St} {H : Hp} {s s' : Shared}
theorem Inv.env0 (I : Inv X pins σ H s) : Env0 X.prog X.w X.K X.mg X.base X.A X.stack s H :=
  ⟨I.ok.frames, I.ok.mod, I.bs, Nat.le_trans I.ok.bsz I.sz, I.stack, I.stkFree, I.hok, I.bare⟩
theorem Inv.after {Q : VK} {u : Value} (I : Inv X pins σ H s) (h : CE X.stack X.prog X.w H s Q u s') : EP X pins σ Q u s' := by
  obtain ⟨v, H', os, bare, un, hok, r, q⟩ := h
  obtain ⟨hh, g, d, t, os'⟩ := s'
  obtain rfl : os' = s.os := os
  exact ⟨v, H', I.call (h' := hh) (g' := g) (d' := d) (t' := t) (ch := []) un hok bare (fun b z => absurd z (by simp)), r, q⟩
end
def yd7 (K : PySem.W.Frag) (fd : FuncData) (ps : List Str) (ds : List Value) : Prop :=
  ∀ (s : Shared) (us : List Value), K.In s.heap -> (us ++ ds).length = ps.length -> BindsTo s fd ⟨us, []⟩ (ps.zip (us ++ ds))
theorem yd7.all {K : PySem.W.Frag} {fd : FuncData} {ps : List Str} (h : ∀ us : List Value, us.length = ps.length -> bindArgs fd ⟨us, []⟩ = pure (ps.zip us)) : yd7 K fd ps [] := fun s us _ hl => by
  rw [List.append_nil] at hl ⊢
  exact .of_eq (h us hl)
section
variable {X : Cx} {CX : CXT} {k : Nat} {f C : Addr} {fd : FuncData} {ps : List Str} {sp : Sp} {dvs : List V} {ds : List Value} {E : XK} {x m : Str} {p pos apos : Pos} {e o : Expr} {es : List Expr} {ta : TE} {t : TA}
structure Mk (K : PySem.W.Frag) (C f : Addr) : Prop where
  makes : PySem.W.makesIn K C = true
  init : PySem.W.findIn K (.ref C) "__init__" = some (some (.ref f))
  fn : PySem.W.isFn K (.ref f) = true
  kp : PySem.W.keepIn K (.ref C) = true
end
section
variable {X : Cx} {CX : CXT} {k : Nat} {f C : Addr} {fd : FuncData} {ps ks : List Str} {sp : Sp} {E : XK} {x m : Str} {p pos apos kpos : Pos} {e o : Expr} {es : List Expr} {kws : List Keyword} {te ta : TE} {t tk : TA} {nm : Option Str}
structure KBinds (K : PySem.W.Frag) (fd : FuncData) (ps ks : List Str) (g : List Value -> List Value -> List Value) (gV : List V -> List V -> List V) : Prop where
  to : ∀ (s : Shared) (us ws : List Value), K.In s.heap -> (g us ws).length = ps.length -> BindsTo s fd ⟨us, ks.zip ws⟩ (ps.zip (g us ws))
  rel : ∀ {vs : List V} {us : List Value} {zs : List V} {ws : List Value}, yhw vs us -> yhw zs ws -> yhw (gV vs zs) (g us ws)
variable {g : List Value -> List Value -> List Value} {gV : List V -> List V -> List V}
end
structure FnScope (N P : List Str) (sc : Scope) : Prop where
  kind : sc.kind = .function
  co : sc.isCoroutine = false
  gen : sc.isGenerator = false
  nd : N.Nodup
  pre : N.take P.length = P
  par : ∀ x ∈ P, sc.names.lookup x = some .local \/ sc.names.lookup x = some .cell
  nofree : ∀ y ∈ sc.names, y.2 ≠ .free
theorem zkb {kindOf : Str -> Option NameKind} {x : Str} : ∀ {binds : List (Str × Value)} {m : Str -> Option Value}, (∀ v, (x, v) ∉ binds) -> bindL kindOf binds m x = m x
  | [], _, _ => rfl
  | (n, v) :: r, m, h => by
    unfold bindL
    rw [zkb fun w hw => h w (List.mem_cons_of_mem _ hw)]
    split
    · have : x ≠ n := by rintro rfl; exact h v List.mem_cons_self
      simp [this]
    · rfl
theorem zj9 {kindOf : Str -> Option NameKind} {x : Str} : ∀ {binds : List (Str × Value)} {m : Str -> Option Value}, (∀ v, (x, v) ∉ binds) -> bindC kindOf binds m x = m x
  | [], _, _ => rfl
  | (n, v) :: r, m, h => by
    unfold bindC
    rw [zj9 fun w hw => h w (List.mem_cons_of_mem _ hw)]
    split
    · rfl
    · have : x ≠ n := by rintro rfl; exact h v List.mem_cons_self
      simp [this]
theorem zka {kindOf : Str -> Option NameKind} {x : Str} {v : Value} : ∀ {P : List Str} {vs : List Value} {i : Nat} {m : Str -> Option Value}, P.Nodup -> P[i]? = some x -> vs[i]? = some v -> kindOf x = some .local ->
    bindL kindOf (P.zip vs) m x = some v
  | [], _, _, _, _, h, _, _ => by simp at h
  | _ :: _, [], _, _, _, _, h, _ => by simp at h
  | p :: P, w :: vs, 0, m, nd, h1, h2, hk => by
    simp at h1 h2; subst h1; subst h2
    show bindL kindOf ((p, w) :: P.zip vs) m p = _
    unfold bindL
    rw [zkb fun v hv => (List.nodup_cons.mp nd).1 (List.of_mem_zip hv).1, if_pos hk]
    simp
  | p :: P, w :: vs, i + 1, m, nd, h1, h2, hk => by
    show bindL kindOf ((p, w) :: P.zip vs) m x = _
    unfold bindL
    exact zka (i := i) (List.nodup_cons.mp nd).2 (by simpa using h1) (by simpa using h2) hk
theorem zj8 {kindOf : Str -> Option NameKind} {x : Str} {v : Value} : ∀ {P : List Str} {vs : List Value} {i : Nat} {m : Str -> Option Value}, P.Nodup -> P[i]? = some x -> vs[i]? = some v -> kindOf x ≠ some .local ->
    bindC kindOf (P.zip vs) m x = some v
  | [], _, _, _, _, h, _, _ => by simp at h
  | _ :: _, [], _, _, _, _, h, _ => by simp at h
  | p :: P, w :: vs, 0, m, nd, h1, h2, hk => by
    simp at h1 h2; subst h1; subst h2
    show bindC kindOf ((p, w) :: P.zip vs) m p = _
    unfold bindC
    rw [zj9 fun v hv => (List.nodup_cons.mp nd).1 (List.of_mem_zip hv).1, if_neg hk]
    simp
  | p :: P, w :: vs, i + 1, m, nd, h1, h2, hk => by
    show bindC kindOf ((p, w) :: P.zip vs) m x = _
    unfold bindC
    exact zj8 (i := i) (List.nodup_cons.mp nd).2 (by simpa using h1) (by simpa using h2) hk
def yha (N : List Str) (vs : List V) : St := vs.map some ++ List.replicate (N.length - vs.length) none
def yh6 (CX : CXT) (P : Program) (w : World) (K : PySem.W.Frag) (mg : Str -> Option Value) (base : Heap) (N : List Str) (qual : Str) (scope : Scope) (f : Addr) (cd : Value) (A : Around) (outer : List Env) (s : Shared) (H : Hp) (E : XK) : Cx where
  prog := P
  w := w
  K := K
  mg := mg
  base := base
  A := A.deeper (envOfC qual scope s.heap.objs.size f cd)
  N := N
  s₀ := s
  H₀ := H
  env := envOfC qual scope s.heap.objs.size f cd
  outer := outer
  stack := envOfC qual scope s.heap.objs.size f cd :: outer
  ex := []
  calm := true
  fn := fun _ => true
  pn := []
  xe := fun e s' => wpAny (model P w) (A.deeper (envOfC qual scope s.heap.objs.size f cd)) (leaving (envOfC qual scope s.heap.objs.size f cd) e) (fun _ s'' => CX outer H s E e s'') (fun e' s'' => CX outer H s E e' s'') s'
theorem znm {sc : Scope} {n : Nat} {x : Str} (h : sc.names.lookup x = some .cell) : ∃ c, (cellsFrom n sc.names []).lookup x = some c := by
  have q := PySem.W.cellsFrom_some sc.names n [] (.inl h)
  exact Option.isSome_iff_exists.mp q
theorem zla {CX : CXT} {P : Program} {w : World} {K : PySem.W.Frag} {mg : Str -> Option Value} {base : Heap} {N ps : List Str} {qual : Str} {scope : Scope} {f : Addr} {cd : Value} {A : Around} {outer : List Env} {s s1 : Shared} {H : Hp} {E : XK} {us : List Value} {vs : List V}
    (S : FnScope N ps scope) (hd : A.handled = none) (e0 : Env0 P w K mg base A outer s H) (hl : vs.length = ps.length) (r : yhw vs us)
    (x : InCallC s s.heap.objs.size (bindL (envOfC qual scope s.heap.objs.size f cd).kindOf (ps.zip us) fun _ => none) (cellsFrom (s.heap.objs.size + 1) scope.names []) (bindC (envOfC qual scope s.heap.objs.size f cd).kindOf (ps.zip us) fun _ => none) s1) :
    Inv (yh6 CX P w K mg base N qual scope f cd A outer s H E) [] (yha N vs) H s1 := by
  have hpl : ps.length <= N.length := by have := congrArg List.length S.pre; rw [List.length_take] at this; omega
  obtain ⟨h1, tk, rfl, hk⟩ := x.done
  have noA : ∀ b : Addr, b ∉ (yh6 CX P w K mg base N qual scope f cd A outer s H E).ex := fun b z => absurd (show b ∈ ([] : List Addr) from z) (by simp)
  refine ⟨⟨e0.mod, S.kind, rfl, rfl, Nat.le_refl _, fun y z c h1 h2 => ?_, fun y hy => ?_, fun y c _ h => ?_, fun _ => hd, Around.frames_deeper e0.frames, .inr ⟨rfl, rfl⟩, fun b z => absurd z (noA b), e0.bs, e0.bsz, fun b _ _ => noA b, fun b z => absurd z (noA b), e0.funs, e0.frf⟩,
    rfl, e0.bare, Un.kept hk, ⟨_, x.toInCall.ns, fun i y v h1 h2 h3 => ?_⟩, fun y c h => ⟨_, x.cell y c h⟩, e0.hok.fresh (Nat.le_refl _), fun y c h => ?_, fun p hp => absurd (show p ∈ ([] : List (Addr × Obj)) from hp) (by simp), e0.hok.kept hk, ?_⟩
  · exact name_of_addr x.apart (PySem.mem_of_lookup h1) (PySem.mem_of_lookup h2)
  · have hy : scope.names.lookup y = some .cell \/ scope.names.lookup y = some .free := hy
    rcases hy with hy | hy
    · exact znm hy
    · exact absurd rfl (S.nofree _ (PySem.mem_of_lookup hy))
  · exact Nat.le_of_lt (x.above y c (PySem.mem_of_lookup h))
  · have hi : i < vs.length := by
      unfold yha at h2
      by_cases hi : i < vs.length
      · exact hi
      · rw [List.getElem?_append_right (by simpa using hi)] at h2
        rw [List.getElem?_replicate] at h2
        split at h2 <;> cases h2
    have ha : vs[i]? = some v := by
      unfold yha at h2
      rw [List.getElem?_append_left (by simpa using hi), List.getElem?_map] at h2
      cases e : vs[i]? with
      | none => rw [e] at h2; cases h2
      | some a => rw [e] at h2; cases h2; rfl
    obtain ⟨u, hu, rv⟩ := r.get ha
    have hp : ps[i]? = some y := by
      rw [<- S.pre, List.getElem?_take_of_lt (by omega)]; exact h1
    have ndP : ps.Nodup := by rw [<- S.pre]; exact S.nd.sublist (List.take_sublist _ _)
    refine ⟨u, rv, ?_⟩
    rcases S.par y (List.mem_of_getElem? hp) with k | k
    · exact .inl ⟨k, zka ndP hp hu k⟩
    · obtain ⟨c, e⟩ := znm (n := s.heap.objs.size + 1) k
      refine .inr ⟨.inl k, c, e, ?_⟩
      have q := x.cell y c e
      rw [zj8 ndP hp hu (by show scope.names.lookup y ≠ _; rw [k]; decide)] at q
      exact q
  · exact e0.hok.fresh (Nat.le_of_lt (x.above y c (PySem.mem_of_lookup h)))
  · unfold yha
    show _ = N.length
    rw [List.length_append, List.length_map, List.length_replicate]
    omega
theorem yfg {CX : CXT} {P : Program} {w : World} {K : PySem.W.Frag} {mg : Str -> Option Value} {base : Heap} {k : Nat} {f : Addr} {name qual : Str} {params : Arguments} {body : List Stmt} {scope : Scope} {dV kV doc pm cdv ct oc : Value} {an od : Option Addr}
    {osl : Array (Option Value)} {N ps : List Str} {sp : Sp} (lk : K.lookup f = some ⟨oc, od, .func (PySem.W.fnOf name qual params body scope dV kV doc pm an cdv ct), osl⟩) (hcd : PySem.W.codeIn K cdv qual = true) (S : FnScope N ps scope)
    (len : ∀ vs H Q E, sp vs H Q E -> vs.length = ps.length)
    (hbody : ∀ (A : Around) (outer : List Env) (s : Shared) (H : Hp) (vs : List V) (Q : VK) (E : XK), Room k (A.deeper (envOfC qual scope s.heap.objs.size f cdv)) -> sp vs H Q E ->
      ∃ t, PSs (yh6 CX P w K mg base N qual scope f cdv A outer s H E) body t /\ t { nx := fun _ H' => Q .non H', rt := Q } (yha N vs) H) :
    FnOk P w K mg base CX (k + 1) f (PySem.W.fnOf name qual params body scope dV kV doc pm an cdv ct) ps sp := by
  refine ⟨len, fun A outer s H args us vs Q E hr e0 hb r hsp => ?_⟩
  have hl := len _ _ _ _ hsp
  have KX : K.In s.heap := e0.mod.kin.keeps fun b o e => (e0.bs b o e).1
  have lim : s.heap.NoLimit := e0.mod.nolimit.keeps fun b o e => (e0.bs b o e).1
  have hkind : ∀ y ∈ ps.zip us, scope.names.lookup y.1 = some .local \/ (scope.names.lookup y.1 = some .cell /\ ((cellsFrom (s.heap.objs.size + 1) scope.names []).lookup y.1).isSome = true) := fun ⟨n, v⟩ hy => by
    rcases S.par n (List.of_mem_zip hy).1 with q | q
    · exact .inl q
    · exact .inr ⟨q, PySem.W.cellsFrom_some _ _ _ (.inl q)⟩
  refine codeAny_call_function hr.depth (KX _ _ lk) rfl S.co S.gen rfl (PySem.W.codeRec_of KX hcd) (hb _ _ _ _ ?_)
  refine wpAny_newFunctionEnv_cells S.kind hkind fun env he s1 x => ?_
  subst he
  refine ⟨lim.keeps x.toInCall.keep, codeAny_func ?_⟩
  obtain ⟨t, ht, hq⟩ := hbody A outer s H vs Q E (hr.deeper _) hsp
  have I : Inv (yh6 CX P w K mg base N qual scope f cdv A outer s H E) [] (yha N vs) H s1 := zla S hr.hd e0 hl r x
  refine wpAny_mono (ht [] s1 (yha N vs) H _ I hq) (fun fl s' hs => ?_) fun e s' hs => hs
  have fin : ∀ {σ' : St} {H' : Hp} {v : V} {u : Value}, Inv (yh6 CX P w K mg base N qual scope f cdv A outer s H E) [] σ' H' s' -> yhr v u -> Q v H' -> CE outer P w H s Q u s' :=
    fun {σ' H' v u} J rv q => ⟨v, H', J.os, J.bare, J.base, J.hok, rv, q⟩
  cases fl with
  | ret u =>
    obtain ⟨v, σ', H', J, rv, q⟩ := hs
    exact fin J rv q
  | next =>
    obtain ⟨σ', H', J, q⟩ := hs
    exact fin (v := V.non) (u := Value.none) J rfl q
  | brk =>
    obtain ⟨_, _, _, q⟩ := hs
    exact False.elim q
  | cont =>
    obtain ⟨_, _, _, q⟩ := hs
    exact False.elim q
end L2
namespace L2
open PySem PySem.Spec PyProof.Rows
section
variable {X : Cx} {x : Str} {p pos : Pos} {e : Expr} {es : List Expr} {t : TA} {id T : String} {r : List V -> Hp -> VK -> Prop}
def tCB (r : List V -> Hp -> VK -> Prop) (t : TA) : TE := fun σ H Q => t σ H fun vs H1 => r vs H1 Q
theorem zqd (hc : yd8 X (.builtin id) r) (hg : Gl X x) (hm : X.mg x = none) (hv : bootBuiltins x = some (.builtin id)) (ha : PA X (e :: es) t) (hn : x ≠ "__name__" := by decide) (hdb : (x == ("__debug__" : Str)) = false := by decide)
    (he : starEach (e :: es) X.env = (false, eval e X.env) :: starEach es X.env := by rfl) (hpl : (backTo pos (starEach es X.env)).any (·.1) = false := by rfl) : PE X (.Call (.Name x p) (e :: es) [] pos) (tCB r t) := by
  intro pins s σ H Q I h
  refine wpAny_Call_Name_kw (ya5 I hg hm hv ?_ hn hdb)
  exact PyProof.Rows.callWith_builtin1 (thn (ha pos pins s σ H _ I h) fun us s1 ⟨vs, H1, I1, r1, q1⟩ => hc pins s1 σ H1 vs us Q I1 r1 q1) he hpl
theorem zma (hc : yd8 X (.type T) r) (hg : Gl X x) (hm : X.mg x = none) (hv : bootBuiltins x = some (.type T)) (ha : PA X (e :: es) t) (hn : x ≠ "__name__" := by decide) (hdb : (x == ("__debug__" : Str)) = false := by decide)
    (he : starEach (e :: es) X.env = (false, eval e X.env) :: starEach es X.env := by rfl) (hpl : (backTo pos (starEach es X.env)).any (·.1) = false := by rfl) : PE X (.Call (.Name x p) (e :: es) [] pos) (tCB r t) := by
  intro pins s σ H Q I h
  refine wpAny_Call_Name_kw (ya5 I hg hm hv ?_ hn hdb)
  exact PyProof.Rows.callWith_type1 (thn (ha pos pins s σ H _ I h) fun us s1 ⟨vs, H1, I1, r1, q1⟩ => hc pins s1 σ H1 vs us Q I1 r1 q1) he hpl
end
end L2
namespace HT
open PySem PyProof.Rows
section
open PySem.SeqAt
open PySem.AutoSeq1 (wpAny_loadPart')
open PySem.MeetsSeq PySem.MeetsSeq2 PySem.MeetsSeq3
end
section
variable {prog : Program} {w : World} {A : Around} {E : Value -> Shared -> Prop} {s : Shared}
theorem cat_tup {t b : Addr} {vs ws : List Value} {Q : Value -> Shared -> Prop} (ht : IsTup s.heap t vs.toArray) (hb : IsTup s.heap b ws.toArray) (hv : vs ≠ [])
    (h1 : ws = [] -> Q (.ref t) s) (h2 : ws ≠ [] -> Q (.ref s.heap.objs.size) { s with heap := s.heap.push { cls := .type "tuple", data := .seq (vs ++ ws).toArray } })
    (hsz : vs.length + ws.length <= sizeLine) : wpAny (model prog w) A (binaryOp .Add (.ref t) (.ref b)) Q E s := by
  obtain ⟨⟨cls, dd, data, sl⟩, ho, hc, n, hd⟩ := id ht
  obtain ⟨⟨cls2, dd2, data2, sl2⟩, ho2, hc2, n2, hd2⟩ := id hb
  simp only at hc hd hc2 hd2
  subst hc hd hc2 hd2
  have e : vs.toArray ++ ws.toArray = (vs ++ ws).toArray := by simp
  by_cases hw : ws = []
  · exact concat_meets ⟨_, ho, rfl⟩ ⟨_, ho2, rfl⟩ noFill_tuple_add seq_tuple_add PySem.F.slot_tuple_add PySem.F.entry_tuple_add (PySem.F.args_tuple_add_2 _ _)
      (tuple_addW1 t b vs.toArray ws.toArray n n2 dd dd2 sl sl2 (by simpa using hv) (by simp [hw])) ⟨ho, ho2, h1 hw⟩
  · refine concat_meets ⟨_, ho, rfl⟩ ⟨_, ho2, rfl⟩ noFill_tuple_add seq_tuple_add PySem.F.slot_tuple_add PySem.F.entry_tuple_add (PySem.F.args_tuple_add_2 _ _)
      (tuple_addW2 t b vs.toArray ws.toArray n n2 dd dd2 sl sl2 (by simpa using hv) (by simpa using hw) (by rw [List.size_toArray, List.size_toArray]; exact hsz)) ⟨ho, ho2, ?_⟩
    rw [e]
    exact h2 hw
def sIx (n d : Nat) : Option Int -> Nat
  | none => d
  | some v => if v < 0 then (v + (n : Int)).toNat else min v.toNat n
theorem ydc (n d : Nat) (hd : d <= n) (o : Option Int) : sIx n d o <= n := by
  cases o with
  | none => exact hd
  | some v =>
    show (if v < 0 then (v + (n : Int)).toNat else min v.toNat n) <= n
    by_cases hv : v < 0
    · rw [if_pos hv]; omega
    · rw [if_neg hv]; exact Nat.min_le_right _ _
theorem zsp (v : Int) (n d : Nat) : (if v < 0 then max (v + (n : Int)) 0 else min v (n : Int)) = ((sIx n d (some v) : Nat) : Int) := by
  show (if v < 0 then max (v + (n : Int)) 0 else min v (n : Int)) = (((if v < 0 then (v + (n : Int)).toNat else min v.toNat n) : Nat) : Int)
  by_cases hv : v < 0
  · simp only [if_pos hv]; omega
  · simp only [if_neg hv]; omega
theorem zhx (lo hi : Option Int) (n : Nat) : Builtin.Slice.sliceAdjust lo hi 1 (n : Int) = (((sIx n 0 lo : Nat) : Int), ((sIx n n hi : Nat) : Int)) := by
  have h1 : ¬ ((1 : Int) < 0) := by omega
  unfold Builtin.Slice.sliceAdjust
  simp only [h1, if_false]
  refine Prod.ext ?_ ?_
  · cases lo with
    | none => rfl
    | some v => exact zsp v n 0
  · cases hi with
    | none => rfl
    | some v => exact zsp v n n
theorem zi9 (i j : Nat) : Builtin.Slice.slicePlaces (i : Int) (j : Int) 1 = j - i := by
  unfold Builtin.Slice.slicePlaces
  have h1 : (1 : Int) > 0 := by omega
  simp only [h1, if_true, Int.ediv_one]
  split <;> omega
theorem zjt {v : Value} {o : Option Int} {Q : Option Int -> Shared -> Prop} (p : IsPart v o) (h : Q o s) : wpAny (model prog w) A (Builtin.Slice.slicePartIndex v) Q E s := by
  cases p with
  | none => exact slicePart_none h
  | int i t => exact slicePart_int h
theorem zbq {sl : Addr} {vl vu : Value} {lo hi : Option Int} {n : Nat} {Q : Int × Int × Nat -> Shared -> Prop} (hs : s.heap.IsSliceOf sl vl vu .none) (pl : IsPart vl lo) (pu : IsPart vu hi)
    (h : Q (((sIx n 0 lo : Nat) : Int), 1, sIx n n hi - sIx n 0 lo) s) : wpAny (model prog w) A (Builtin.Slice.sliceApplied (.ref sl) (pure (n : Int))) Q E s := by
  obtain ⟨os, hos, hcs, hds⟩ := id hs
  unfold Builtin.Slice.sliceApplied Builtin.Slice.sliceFields
  refine wpAny_bind (wpAny_bind (wpAny_field hos hds (x := vl) rfl (wpAny_bind (wpAny_field hos hds (x := vu) rfl (wpAny_bind (wpAny_field hos hds (x := .none) rfl (wpAny_pure ?_)))))))
  refine wpAny_bind (slicePart_none ?_)
  show wpAny _ _ (if ((1 : Int) == 0) = true then _ else _) _ _ s
  rw [if_neg (by decide)]
  refine wpAny_bind (zjt pl (wpAny_bind (zjt pu (wpAny_bind (wpAny_pure ?_)))))
  show wpAny _ _ (match Builtin.Slice.sliceAdjust lo hi 1 (n : Int) with | (lo, hi) => pure (lo, (1 : Int), Builtin.Slice.slicePlaces lo hi 1)) _ _ s
  rw [zhx lo hi n]
  show wpAny _ _ (pure (((sIx n 0 lo : Nat) : Int), (1 : Int), Builtin.Slice.slicePlaces ((sIx n 0 lo : Nat) : Int) ((sIx n n hi : Nat) : Int) 1)) _ _ s
  rw [zi9]
  exact wpAny_pure h
theorem zqj (xs : Array Value) (i k : Nat) : ((List.range k).filterMap fun (m : Nat) => xs[((i : Int) + (m : Int) * 1).toNat]?).toArray = ((xs.toList.drop i).take k).toArray := by
  have e : (fun (m : Nat) => xs[((i : Int) + (m : Int) * 1).toNat]?) = fun m => xs[i + m]? := by
    funext m
    have : ((i : Int) + (m : Int) * 1).toNat = i + m := by omega
    rw [this]
  rw [e]
  have := pick_run xs i k
  rw [List.filterMap_map] at this
  have e2 : ((fun x => xs[x]?) ∘ fun x => i + x) = fun m => xs[i + m]? := rfl
  rw [e2] at this
  rw [this]
theorem getItem_tuple_cut {t sl : Addr} {items : Array Value} {vl vu : Value} {lo hi : Option Int} {Q : Value -> Shared -> Prop} (ht : IsTup s.heap t items) (hs : s.heap.IsSliceOf sl vl vu .none) (pl : IsPart vl lo) (pu : IsPart vu hi)
    (hw : ¬ (sIx items.size 0 lo = 0 /\ sIx items.size items.size hi = items.size))
    (h : Q (.ref s.heap.objs.size) { s with heap := s.heap.push { cls := .type "tuple", data := .seq ((items.toList.drop (sIx items.size 0 lo)).take (sIx items.size items.size hi - sIx items.size 0 lo)).toArray } })
    (hsz : items.size <= sizeLine) : wpAny (model prog w) A (getItem (.ref t) (.ref sl)) Q E s := by
  have htake : sizeOk (.seq ((items.toList.drop (sIx items.size 0 lo)).take (sIx items.size items.size hi - sIx items.size 0 lo)).toArray) := by
    show ((items.toList.drop (sIx items.size 0 lo)).take (sIx items.size items.size hi - sIx items.size 0 lo)).toArray.size <= sizeLine
    rw [List.size_toArray, List.length_take, List.length_drop, Array.length_toList]
    omega
  have hj : sIx items.size items.size hi <= items.size := ydc _ _ (Nat.le_refl _) hi
  obtain ⟨os, hos, hcs, hds⟩ := id hs
  have hTs : s.TypeIs (.ref sl) "slice" := ⟨os, hos, hcs⟩
  unfold getItem
  try with_reducible refine wpAny_holding ?_
  first | refine wpAny_bind (wpAny_pure ?_) | skip
  refine wpAny_bind (wpAny_sequenceKey ht.typeIs (by decide) ?_)
  refine wpAny_bind (wpAny_callSpecial?_slot (name := Str.ofString "__getitem__") ht.typeIs PyProof.Rows.slot_tuple_getitem
    (wpAny_call_entry PyProof.Rows.slot_tuple_getitem ht.typeIs entry_tuple_getitem ?_ (args_tuple_getitem _ _)))
  show wpAny _ _ (Builtin.Tuple.tupleItemsOf (.ref t) >>= _) _ _ s
  refine wpAny_bind (tupleItemsOf_ ht ?_)
  refine wpAny_bind (wpAny_typeOf hTs ?_)
  rw [if_pos (by decide)]
  refine wpAny_bind (zbq hs pl pu ?_)
  have hno : ¬ ((((sIx items.size 0 lo : Nat) : Int) == 0 && (1 : Int) == 1 && (sIx items.size items.size hi - sIx items.size 0 lo) == items.size) = true) := by
    intro q
    rw [Bool.and_eq_true, Bool.and_eq_true] at q
    have q1 : ((sIx items.size 0 lo : Nat) : Int) = 0 := eq_of_beq q.1.1
    have q2 : sIx items.size items.size hi - sIx items.size 0 lo = items.size := eq_of_beq q.2
    exact hw ⟨by omega, by omega⟩
  show wpAny _ _ (if (((sIx items.size 0 lo : Nat) : Int) == 0 && (1 : Int) == 1 && (sIx items.size items.size hi - sIx items.size 0 lo) == items.size) = true then _ else _) _ _ s
  rw [if_neg hno, zqj]
  first
    | exact wpAny_bind (m := Builtin.Tuple.tupleExact _) (wpAny_newObj_type (wpAny_pure ⟨_, rfl, wpAny_pure h⟩) htake)
    | exact wpAny_bind (m := Builtin.Tuple.tupleExact _) (wpAny_newObj_type (wpAny_bind (wpAny_pure (wpAny_pure ⟨_, rfl, wpAny_pure h⟩))) htake)
    | exact wpAny_bind (wpAny_bind (m := Builtin.Tuple.tupleExact _) (wpAny_newObj_type (wpAny_pure (wpAny_pure ⟨_, rfl, wpAny_pure h⟩)) htake))
    | exact wpAny_bind (wpAny_bind (m := Builtin.Tuple.tupleExact _) (wpAny_newObj_type (wpAny_pure ⟨_, rfl, wpAny_pure h⟩) htake))
end
end HT
namespace L2
open PySem PySem.Spec PyProof.Rows
abbrev TO := St -> Hp -> (Option Int -> Hp -> Prop) -> Prop
def PO (X : Cx) (e : Option Expr) (t : TO) : Prop :=
  ∀ (pins : List (Addr × Obj)) (s : Shared) (σ : St) (H : Hp) (Q : Option Int -> Hp -> Prop), Inv X pins σ H s -> t σ H Q ->
    wpAny (model X.prog X.w) X.A (evalPart e X.env) (fun u s' => ∃ o H', Inv X pins σ H' s' /\ IsPart u o /\ Q o H') X.xe s
def zx7 : TO := fun _ H Q => Q none H
def tPart (t : TE) : TO := fun σ H Q => t σ H fun x H1 => ∃ i, x = .int i /\ Q (some i) H1
theorem zin {ns : List Int} : ∀ {us : List Value}, yhw (ns.map V.int) us -> IntsAre us ns := by
  induction ns with
  | nil => intro us r; rw [List.map_nil] at r; cases r; exact .nil
  | cons n ns ih =>
    intro us r
    rw [List.map_cons] at r
    cases r with
    | cons r1 r2 =>
      obtain ⟨t, e⟩ := r1
      subst e
      exact .cons n t (ih r2)
section
variable {X : Cx} {e : Expr} {te : TE} {lo hi : Option Expr} {tl th : TO} {pos p2 : Pos}
theorem zwg : PO X none zx7 := by
  intro pins s σ H Q I h
  rw [evalPart_none]
  exact wpAny_pure ⟨none, H, I, .none, h⟩
theorem zwh (h : PE X e te) : PO X (some e) (tPart te) := by
  intro pins s σ H Q I hw
  rw [evalPart_some]
  refine thn (h pins s σ H _ I hw) fun u s1 ⟨x, H1, I1, r1, q1⟩ => ?_
  obtain ⟨i, rfl, q⟩ := q1
  obtain ⟨t, rfl⟩ := r1
  exact ⟨some i, H1, I1, .int i t, q⟩
def SlR (X : Cx) (r : V -> Option Int -> Option Int -> Hp -> VK -> Prop) : Prop :=
  ∀ (pins : List (Addr × Obj)) (s : Shared) (σ : St) (H : Hp) (x : V) (v vl vu : Value) (lo hi : Option Int) (sl : Addr) (Q : VK), Inv X pins σ H s -> yhr x v -> s.heap.IsSliceOf sl vl vu .none -> IsPart vl lo -> IsPart vu hi -> r x lo hi H Q ->
    ∃ T id, typeLookup (.type T) "__getitem__" = pure (some (.builtin id)) /\ s.TypeIs v T /\ wpAny (model X.prog X.w) X.A (getItem v (.ref sl)) (EP X pins σ Q) X.xe s
theorem SlR.or {r r' : V -> Option Int -> Option Int -> Hp -> VK -> Prop} (h : SlR X r) (h' : SlR X r') : SlR X (fun x lo hi H Q => r x lo hi H Q \/ r' x lo hi H Q) := by
  intro pins s σ H x v vl vu lo hi sl Q I rx hs pl pu q
  rcases q with q | q
  · exact h pins s σ H x v vl vu lo hi sl Q I rx hs pl pu q
  · exact h' pins s σ H x v vl vu lo hi sl Q I rx hs pl pu q
def tSl (r : V -> Option Int -> Option Int -> Hp -> VK -> Prop) (te : TE) (tl th : TO) : TE := fun σ H Q => te σ H fun x H1 => tl σ H1 fun l H2 => th σ H2 fun u H3 => r x l u H3 Q
theorem zqh {r : V -> Option Int -> Option Int -> Hp -> VK -> Prop} (hr : SlR X r) (he : PE X e te) (hl : PO X lo tl) (hu : PO X hi th) : PE X (.Subscript e (.Slice lo hi none p2) pos) (tSl r te tl th) := by
  intro pins s σ H Q I h
  refine Subscript_ (thn (he pins s σ H _ I h) fun v s1 ⟨x, H1, I1, r1, q1⟩ => ?_)
  refine wpAny_Slice (thn (hl pins s1 σ H1 _ I1 q1) fun vl s2 ⟨l, H2, I2, pl, q2⟩ => thn (hu pins s2 σ H2 _ I2 q2) fun vu s3 ⟨u, H3, I3, pu, q3⟩ => ?_)
  rw [evalPart_none]
  refine wpAny_pure ?_
  have I4 : Inv X pins σ H3 { s3 with heap := s3.heap.push { cls := .type "slice", data := .fields #[vl, vu, .none] } } := I3.kept (t' := s3.toks) fun b ob q => Heap.get?_push_of_some _ q
  obtain ⟨T, id, hT, ht, hg⟩ := hr pins { s3 with heap := s3.heap.push { cls := .type "slice", data := .fields #[vl, vu, .none] } } σ H3 x v vl vu l u s3.heap.objs.size Q I4 r1 (Heap.IsSliceOf.new ..) pl pu q3
  show wpAny (model X.prog X.w) X.A (subscriptTail e (.Slice lo hi none p2) v (.ref s3.heap.objs.size)) (EP X pins σ Q) X.xe { s3 with heap := s3.heap.push { cls := .type "slice", data := .fields #[vl, vu, .none] } }
  exact tail_any (ops := [.ref s3.heap.objs.size, v]) ht hT hg (by with_unfolding_all rfl)
def yh5 (xs : List V) (lo hi : Option Int) : List V := (xs.drop (HT.sIx xs.length 0 lo)).take (HT.sIx xs.length xs.length hi - HT.sIx xs.length 0 lo)
theorem zgg (xs : List V) (lo hi : Option Int) : (yh5 xs lo hi).length <= xs.length := by
  unfold yh5
  rw [List.length_take, List.length_drop]
  omega
def rSlT (K : PySem.W.Frag) : V -> Option Int -> Option Int -> Hp -> VK -> Prop := fun x lo hi H Q => ∃ a xs, x = .ref a /\ SqT K H a xs /\
  ¬ (HT.sIx xs.length 0 lo = 0 /\ HT.sIx xs.length xs.length hi = xs.length) /\ ∀ p, H p = none -> Q (.ref p) (upd H p (.tup (yh5 xs lo hi)))
theorem ydk : SlR X (rSlT X.K) := by
  intro pins s σ H x v vl vu lo hi sl Q I rx hs pl pu h
  obtain ⟨a, xs, rfl, hx, hw, q⟩ := h
  cases rx
  obtain ⟨its, r, ht, hz⟩ := I.tuple hx
  have hlen : its.toArray.size = xs.length := by rw [List.size_toArray]; exact r.length.symm
  refine ⟨"tuple", _, PyProof.Rows.slot_tuple_getitem.lookup, ht.typeIs, ?_⟩
  refine HT.getItem_tuple_cut ht hs pl pu (by rw [hlen]; exact hw) ?_ (by rw [hlen]; exact hz)
  rw [hlen]
  refine ⟨.ref s.heap.objs.size, _, I.laid (t' := s.toks) (o := .tup (yh5 xs lo hi)) (fun b ob q => Heap.get?_push_of_some _ q) (Nat.le_refl _) ?_, rfl, q _ (I.hok.fresh (Nat.le_refl _))⟩
  exact ⟨Nat.le_trans (zgg xs lo hi) hz, _, (r.drop (HT.sIx xs.length 0 lo)).take (HT.sIx xs.length xs.length hi - HT.sIx xs.length 0 lo), IsTup.new _ _⟩
def rCatT (K : PySem.W.Frag) : R2 := fun x y H Q => ∃ a b xs ys, x = .ref a /\ y = .ref b /\ SqT K H a xs /\ SqT K H b ys /\ xs ≠ [] /\ xs.length + ys.length <= sizeLine /\
  (ys = [] -> Q (.ref a) H) /\ (ys ≠ [] -> ∀ p, H p = none -> Q (.ref p) (upd H p (.tup (xs ++ ys))))
theorem yhw.nil_iff {xs : List V} {us : List Value} (r : yhw xs us) : us = [] ↔ xs = [] := by
  cases r with
  | nil => simp
  | cons _ _ => simp
theorem zv2 : OpR X (binaryOp .Add) (rCatT X.K) := by
  intro pins s σ H x y v u Q I rx ry h
  obtain ⟨a, b, xs, ys, rfl, rfl, ha, hb, hx, hz, q1, q2⟩ := h
  cases rx
  cases ry
  obtain ⟨its, r1, p1, _⟩ := I.tuple ha
  obtain ⟨its2, r2, p2, _⟩ := I.tuple hb
  refine HT.cat_tup p1 p2 (fun z => hx (r1.nil_iff.mp z)) (fun z => ⟨.ref a, H, I, rfl, q1 (r2.nil_iff.mp z)⟩) (fun z => ?_) (by rw [<- r1.length, <- r2.length]; exact hz)
  refine ⟨.ref s.heap.objs.size, _, I.laid (t' := s.toks) (o := .tup (xs ++ ys)) (fun b ob q => Heap.get?_push_of_some _ q) (Nat.le_refl _) ?_, rfl, q2 (fun w => z (r2.nil_iff.mpr w)) _ (I.hok.fresh (Nat.le_refl _))⟩
  exact ⟨by rw [List.length_append]; exact hz, _, r1.append r2, IsTup.new _ _⟩
end
end L2
namespace L2
open PySem PySem.Spec PyProof.Rows
def ixN (n : Nat) (i : Int) : Option Nat := if 0 <= i then (if i < n then some i.toNat else none) else if -(n : Int) <= i then some (i + n).toNat else none
def atI {α : Type} (xs : List α) (i : Int) : Option α := (ixN xs.length i).bind fun j => xs[j]?
theorem zup {n : Nat} {i : Int} {j : Nat} (h : ixN n i = some j) : seqIndex? i n = some j /\ j < n /\ -(n : Int) <= i /\ i < n := by
  unfold ixN at h
  by_cases h0 : 0 <= i
  · rw [if_pos h0] at h
    by_cases h1 : i < n
    · rw [if_pos h1] at h
      have e : i.toNat = j := Option.some.inj h
      exact ⟨by rw [seqIndex_of h0 h1, e], by omega, by omega, h1⟩
    · rw [if_neg h1] at h; cases h
  · rw [if_neg h0] at h
    by_cases h1 : -(n : Int) <= i
    · rw [if_pos h1] at h
      have e : (i + n).toNat = j := Option.some.inj h
      exact ⟨by rw [seqIndex_neg (by omega) h1, e], by omega, h1, by omega⟩
    · rw [if_neg h1] at h; cases h
theorem zr8 {α : Type} {xs : List α} {i : Int} {v : α} (h : atI xs i = some v) : ∃ j, seqIndex? i xs.length = some j /\ xs[j]? = some v /\ j < xs.length /\ -(xs.length : Int) <= i /\ i < xs.length := by
  unfold atI at h
  cases e : ixN xs.length i with
  | none => rw [e] at h; cases h
  | some j =>
    rw [e] at h
    obtain ⟨h1, h2, h3, h4⟩ := zup e
    exact ⟨j, h1, h, h2, h3, h4⟩
theorem zr9 {α : Type} {xs : List α} {j : Nat} {v : α} (h : xs[j]? = some v) : atI xs (j : Int) = some v := by
  have hj : j < xs.length := (List.getElem?_eq_some_iff.mp h).1
  have e : ixN xs.length (j : Int) = some j := by
    unfold ixN
    rw [if_pos (by omega), if_pos (by omega)]; simp
  unfold atI; rw [e]; exact h
def zrz (b : Expr) : Prop := ∀ o i, subscripted b false o i = operate [o, i] (getItem o i)
def IxR (X : Cx) (r : R2) : Prop :=
  ∀ (value slice : Expr) (pins : List (Addr × Obj)) (s : Shared) (σ : St) (H : Hp) (x y : V) (v u : Value) (Q : VK), Inv X pins σ H s -> yhr x v -> yhr y u -> r x y H Q ->
    subscripted slice false v u = operate [v, u] (getItem v u) -> wpAny (model X.prog X.w) X.A (subscriptTail value slice v u) (EP X pins σ Q) X.xe s
def MtR (X : Cx) (id : String) (r : V -> List V -> Hp -> VK -> Prop) : Prop :=
  ∀ (pins : List (Addr × Obj)) (s : Shared) (σ : St) (H : Hp) (x : V) (xs : List V) (v : Value) (us : List Value) (Q : VK), Inv X pins σ H s -> yhr x v -> yhw xs us -> r x xs H Q ->
    wpAny (model X.prog X.w) X.A (call (.builtin id) (v :: us)) (EP X pins σ Q) X.xe s
section
variable {X : Cx} {a b : Expr} {ta tb : TE} {pos : Pos}
theorem IxR.or {r r' : R2} (h : IxR X r) (h' : IxR X r') : IxR X (fun x y H Q => r x y H Q \/ r' x y H Q) := by
  intro value slice pins s σ H x y v u Q I rx ry q hs
  rcases q with q | q
  · exact h value slice pins s σ H x y v u Q I rx ry q hs
  · exact h' value slice pins s σ H x y v u Q I rx ry q hs
theorem MtR.or {id : String} {r r' : V -> List V -> Hp -> VK -> Prop} (h : MtR X id r) (h' : MtR X id r') : MtR X id (fun x xs H Q => r x xs H Q \/ r' x xs H Q) := by
  intro pins s σ H x xs v us Q I rx rs q
  rcases q with q | q
  · exact h pins s σ H x xs v us Q I rx rs q
  · exact h' pins s σ H x xs v us Q I rx rs q
theorem pe_ix {r : R2} (hr : IxR X r) (ha : PE X a ta) (hb : PE X b tb) (hs : zrz b) : PE X (.Subscript a b pos) (tOp r ta tb) := by
  intro pins s σ H Q I h
  exact Subscript_ (binT ha hb I h fun v u s2 x y H2 I2 rx ry q => hr a b pins s2 σ H2 x y v u Q I2 rx ry q (hs _ _))
def rIxL (K : PySem.W.Frag) : R2 := fun x y H Q => ∃ p xs i v, x = .ref p /\ y = .int i /\ SqL K H p xs /\ atI xs i = some v /\ Q v H
def rIxT (K : PySem.W.Frag) : R2 := fun x y H Q => ∃ p xs i v, x = .ref p /\ y = .int i /\ SqT K H p xs /\ atI xs i = some v /\ Q v H
theorem zuq : IxR X (rIxL X.K) := by
  intro value slice pins s σ H x y v u Q I rx ry h hs
  obtain ⟨p, xs, i, z, rfl, rfl, hq, he, q⟩ := h
  cases rx
  obtain ⟨t, rfl⟩ := ry
  obtain ⟨its, r, pl, hz⟩ := I.list hq
  obtain ⟨j, h1, h2, h3, h4, h5⟩ := zr8 he
  obtain ⟨w, ew, rw'⟩ := r.get h2
  have hl := r.length
  have hn := ya8
  have fin : EP X pins σ Q w s := ⟨z, H, I, rw', q⟩
  by_cases h0 : 0 <= i
  · have hj : i.toNat = j := by
      rw [seqIndex_of h0 h5] at h1
      exact Option.some.inj h1
    exact item_listR pl.isList h0 (by omega) (by rw [hj]; simpa using ew) fin hs
  · have hj : (i + (its.toArray.size : Int)).toNat = j := by
      rw [seqIndex_neg (by omega) h4] at h1
      rw [List.size_toArray, <- hl]
      exact Option.some.inj h1
    exact subscriptTail_builtinR (x := w) pl.isList.typeIs slot_list_getitem.lookup
      (wpAny_getItem_list_neg (Q := fun r s' => r = w /\ EP X pins σ Q r s') pl.isList (by omega) (by rw [List.size_toArray] <;> omega) (by omega) (by rw [hj]; simpa using ew) ⟨rfl, fin⟩) hs
theorem yat : IxR X (rIxT X.K) := by
  intro value slice pins s σ H x y v u Q I rx ry h hs
  obtain ⟨p, xs, i, z, rfl, rfl, hq, he, q⟩ := h
  cases rx
  obtain ⟨t, rfl⟩ := ry
  obtain ⟨its, r, pl, hz⟩ := I.tuple hq
  obtain ⟨j, h1, h2, h3, h4, h5⟩ := zr8 he
  obtain ⟨w, ew, rw'⟩ := r.get h2
  have hl := r.length
  have hn := ya8
  have fin : EP X pins σ Q w s := ⟨z, H, I, rw', q⟩
  exact subscriptTail_builtinR (x := w) pl.typeIs slot_tuple_getitem.lookup
    (getItem_tuple (j := j) (Q := fun r s' => r = w /\ EP X pins σ Q r s') pl (by omega) (by omega) (by rw [List.size_toArray, <- hl]; exact h1) (by simpa using ew) ⟨rfl, fin⟩) hs
theorem zix (its : List Value) (n j : Nat) (u : Value) : Obj.mapSeq (·.setIfInBounds j u) { cls := .type "list", data := .seq its.toArray n } = { cls := .type "list", data := .seq (its.set j u).toArray n } := by
  simp [Obj.mapSeq]
theorem Inv.lst {pins : List (Addr × Obj)} {σ : St} {H : Hp} {s : Shared} {p : Addr} {xs : List V} (I : Inv X pins σ H s) (h : H p = some (.lst xs)) :
    ∃ (its : List Value) (n : Nat), yhw xs its /\ s.heap.get? p = some { cls := .type "list", data := .seq its.toArray n } /\ xs.length <= sizeLine := by
  obtain ⟨z, its, n, r, e⟩ := I.hok p _ h
  exact ⟨its, n, r, e, z⟩
theorem Inv.lstUpd {pins : List (Addr × Obj)} {σ : St} {H : Hp} {s : Shared} {p : Addr} {xs ys : List V} {its its' : List Value} {n n' : Nat} {f : Obj -> Obj} (I : Inv X pins σ H s) (h : H p = some (.lst xs))
    (ho : s.heap.get? p = some { cls := .type "list", data := .seq its.toArray n }) (hf : f { cls := .type "list", data := .seq its.toArray n } = { cls := .type "list", data := .seq its'.toArray n' }) (r : yhw ys its') (hz : ys.length <= sizeLine) (t : Nat) :
    Inv X pins σ (upd H p (.lst ys)) { s with heap := s.heap.update p f, toks := t } := by
  have e : (s.heap.update p f).get? p = some { cls := .type "list", data := .seq its'.toArray n' } := by
    rw [Heap.get?_update_self f ho (by rw [hf] <;> rfl), hf]
  refine I.write (x := p) (e := p) (by rw [h]; trivial) (.inl rfl) (fun b u hb q => (Heap.get?_update_other _ _ (Ne.symm hb)).trans q) ⟨_, e⟩ ?_
  exact ⟨hz, its', n', r, e⟩
def rSetL : V -> V -> V -> Hp -> (Hp -> Prop) -> Prop := fun o i v H Q => ∃ p xs k j, o = .ref p /\ i = .int k /\ H p = some (.lst xs) /\ ixN xs.length k = some j /\ Q (upd H p (.lst (xs.set j v)))
theorem zq6 : PSet X rSetL := by
  intro pins s σ H o i v ov iv u Q I ro ri rv h
  obtain ⟨p, xs, k, j, rfl, rfl, hp, hj, q⟩ := h
  cases ro
  obtain ⟨t, rfl⟩ := ri
  obtain ⟨its, n, r, ho, hz⟩ := I.lst hp
  obtain ⟨h1, h2, h3, h4⟩ := zup hj
  have hl := r.length
  have hn := ya8
  have I' : Inv X pins σ (upd H p (.lst (xs.set j v))) { s with heap := s.heap.update p (Obj.mapSeq (·.setIfInBounds j u)) } :=
    I.lstUpd hp ho (zix its n j u) (r.set rv j) (by rw [List.length_set]; exact hz) s.toks
  by_cases h0 : 0 <= k
  · have hk : k.toNat = j := by
      rw [seqIndex_of h0 h4] at h1
      exact Option.some.inj h1
    exact PySem.W.ki_setAt ho h0 (by omega) (by rw [List.size_toArray, <- hl]; exact h4) (by rw [hk]; exact ⟨_, I', q⟩)
  · have hk : (k + (its.toArray.size : Int)).toNat = j := by
      rw [seqIndex_neg (by omega) h3] at h1
      rw [List.size_toArray, <- hl]
      exact Option.some.inj h1
    exact PySem.W.ki_setBack ho (by omega) (by rw [List.size_toArray, <- hl]; exact h3) (by omega) (by rw [hk]; exact ⟨_, I', q⟩)
theorem zf5 (lo hi : Option Int) (n : Nat) : (sliceBounds lo hi none n).1 = ((HT.sIx n 0 lo : Nat) : Int) /\ (sliceBounds lo hi none n).2.1 = ((HT.sIx n n hi : Nat) : Int) /\ (sliceBounds lo hi none n).2.2 = 1 := by
  refine ⟨?_, ?_, rfl⟩
  · cases lo with
    | none => simp [sliceBounds, HT.sIx]
    | some i =>
      simp only [sliceBounds, HT.sIx, Option.getD_none, show (1 : Int) > 0 by decide, if_true]
      by_cases h : i < 0
      · simp only [h, if_true] <;> omega
      · simp only [h, if_false] <;> omega
  · cases hi with
    | none => simp [sliceBounds, HT.sIx]
    | some i =>
      simp only [sliceBounds, HT.sIx, Option.getD_none, show (1 : Int) > 0 by decide, if_true]
      by_cases h : i < 0
      · simp only [h, if_true] <;> omega
      · simp only [h, if_false] <;> omega
theorem zek (its : List Value) (lo hi : Option Int) : slicePick its.toArray lo hi none = ((its.drop (HT.sIx its.length 0 lo)).take (HT.sIx its.length its.length hi - HT.sIx its.length 0 lo)).toArray := by
  obtain ⟨h1, h2, h3⟩ := zf5 lo hi its.toArray.size
  unfold slicePick
  rw [h1, h2, h3]
  simp only [sliceRange_one, pick_run, List.size_toArray] <;> rfl
def rSlL (K : PySem.W.Frag) : V -> Option Int -> Option Int -> Hp -> VK -> Prop := fun x lo hi H Q => ∃ a xs, x = .ref a /\ SqL K H a xs /\ ∀ p, H p = none -> Q (.ref p) (upd H p (.lst (yh5 xs lo hi)))
theorem zxl : SlR X (rSlL X.K) := by
  intro pins s σ H x v vl vu lo hi sl Q I rx hs pl pu h
  obtain ⟨a, xs, rfl, hx, q⟩ := h
  cases rx
  obtain ⟨its, r, ht, hz⟩ := I.list hx
  have hlen := r.length
  refine ⟨"list", _, slot_list_getitem.lookup, ht.isList.typeIs, ?_⟩
  refine wpAny_getItem_list_slice ht.isList hs pl pu .none (by simp) ?_ (by rw [List.size_toArray] <;> omega)
  rw [zek, <- hlen]
  refine ⟨.ref s.heap.objs.size, _, I.laid (t' := s.toks) (o := .lst (yh5 xs lo hi)) (fun b ob q => Heap.get?_push_of_some _ q) (Nat.le_refl _) ?_, rfl, q _ (I.hok.fresh (Nat.le_refl _))⟩
  exact ⟨Nat.le_trans (zgg xs lo hi) hz, _, 0, (r.drop (HT.sIx xs.length 0 lo)).take (HT.sIx xs.length xs.length hi - HT.sIx xs.length 0 lo), Heap.get?_push_size _ rfl⟩
def yff : V -> Bool
  | .non => true
  | .bl _ => true
  | .int _ => true
  | .str _ => true
  | _ => false
def eqV : V -> V -> Bool
  | .non, .non => true
  | .bl a, .bl b => a == b
  | .bl a, .int b => (if a then 1 else 0) == b
  | .int a, .bl b => a == (if b then 1 else 0)
  | .int a, .int b => a == b
  | .str a, .str b => a == b
  | _, _ => false
theorem zze {A : Around} {s : Shared} {y x : V} {u v : Value} (ry : yhr y u) (rx : yhr x v) (fy : yff y = true) (fx : yff x = true) : SeqAt.EqAt A s u v (eqV y x) := by
  cases y with
  | non =>
    cases ry
    cases x with
    | non => cases rx; exact SeqAt.EqAt.same _
    | bl b => cases rx; exact SeqAt.EqAt.none_bool b
    | int b => obtain ⟨t, rfl⟩ := rx; exact SeqAt.EqAt.none_int b t
    | str b => obtain ⟨t, rfl⟩ := rx; exact SeqAt.EqAt.none_str b t
    | _ => exact absurd (show false = true from fx) Bool.false_ne_true
  | bl a =>
    cases ry
    cases x with
    | non => cases rx; exact SeqAt.EqAt.bool_none a
    | bl b => cases rx; exact SeqAt.EqAt.bool_bool a b
    | int b => obtain ⟨t, rfl⟩ := rx; exact SeqAt.EqAt.bool_int a b t
    | str b => obtain ⟨t, rfl⟩ := rx; exact SeqAt.EqAt.bool_str a b t
    | _ => exact absurd (show false = true from fx) Bool.false_ne_true
  | int a =>
    obtain ⟨t', rfl⟩ := ry
    cases x with
    | non => cases rx; exact SeqAt.EqAt.int_none a t'
    | bl b => cases rx; exact SeqAt.EqAt.int_bool a t' b
    | int b => obtain ⟨t, rfl⟩ := rx; exact SeqAt.EqAt.int_int a t' b t
    | str b => obtain ⟨t, rfl⟩ := rx; exact SeqAt.EqAt.int_str a t' b t
    | _ => exact absurd (show false = true from fx) Bool.false_ne_true
  | str a =>
    obtain ⟨t', rfl⟩ := ry
    cases x with
    | non => cases rx; exact SeqAt.EqAt.str_none a t'
    | bl b => cases rx; exact SeqAt.EqAt.str_bool a t' b
    | int b => obtain ⟨t, rfl⟩ := rx; exact SeqAt.EqAt.str_int a t' b t
    | str b => obtain ⟨t, rfl⟩ := rx; exact SeqAt.EqAt.str_str a t' b t
    | _ => exact absurd (show false = true from fx) Bool.false_ne_true
  | _ => exact absurd (show false = true from fy) Bool.false_ne_true
def eqU (x : V) (u : Value) : Bool := match u with
  | .none => eqV .non x
  | .bool b => eqV (.bl b) x
  | .int i _ => eqV (.int i) x
  | .str z _ => eqV (.str z) x
  | _ => false
theorem zzh {x y : V} {u : Value} (r : yhr y u) (f : yff y = true) : eqU x u = eqV y x := by
  cases y with
  | non => cases r; rfl
  | bl b => cases r; rfl
  | int i => obtain ⟨t, rfl⟩ := r; rfl
  | str z => obtain ⟨t, rfl⟩ := r; rfl
  | _ => exact absurd (show false = true from f) Bool.false_ne_true
theorem zr4 {x : V} : ∀ {xs : List V} {us : List Value}, yhw xs us -> xs.all yff = true -> us.any (eqU x) = xs.any fun y => eqV y x
  | _, _, .nil, _ => rfl
  | y :: xs, u :: us, .cons r t, f => by
    rw [List.all_cons, Bool.and_eq_true] at f
    rw [List.any_cons, List.any_cons, zzh r f.1, zr4 t f.2]
theorem zpr {A : Around} {s : Shared} {x : V} {v : Value} (rx : yhr x v) (fx : yff x = true) : ∀ {xs : List V} {us : List Value}, yhw xs us -> xs.all yff = true -> ∀ u ∈ us, SeqAt.EqAt A s u v (eqU x u)
  | _, _, .nil, _ => fun u hu => by cases hu
  | y :: xs, u :: us, .cons r t, f => fun u' hu => by
    rw [List.all_cons, Bool.and_eq_true] at f
    rcases List.mem_cons.mp hu with rfl | hu
    · rw [zzh r f.1]; exact zze r rx f.1 fx
    · exact zpr rx fx t f.2 u' hu
def inV (x : V) (xs : List V) : Bool := xs.any fun y => eqV y x
def rIn (K : PySem.W.Frag) (neg : Bool) : R2 := fun x y H Q => ∃ p xs, y = .ref p /\ (SqL K H p xs \/ SqT K H p xs) /\ yff x = true /\ xs.all yff = true /\ Q (.bl (if neg then !inV x xs else inV x xs)) H
theorem zfi : OpR X (compareOp .NotIn) (rIn X.K true) := by
  intro pins s σ H x y v u Q I rx ry h
  obtain ⟨p, xs, rfl, hq, fx, fs, q⟩ := h
  cases ry
  rcases hq with hq | hq
  · obtain ⟨its, r, pl, hz⟩ := I.list hq
    refine SeqAt.notIn_listAt (eqU x) pl.isList (fun w hw => zpr rx fx r fs w (by simpa using hw)) ⟨.bl _, H, I, rfl, ?_⟩
    rw [show its.toArray.any (eqU x) = its.any (eqU x) by simp, zr4 r fs]
    exact q
  · obtain ⟨its, r, pl, hz⟩ := I.tuple hq
    refine SeqAt.notIn_tupleAt (eqU x) pl (fun w hw => zpr rx fx r fs w (by simpa using hw)) ⟨.bl _, H, I, rfl, ?_⟩
    rw [show its.toArray.any (eqU x) = its.any (eqU x) by simp, zr4 r fs]
    exact q
theorem zev : yd8 X (.builtin "len") (fun xs H Q => ∃ p ys, xs = [.ref p] /\ (SqL X.K H p ys \/ SqT X.K H p ys) /\ Q (.int ys.length) H) := by
  intro pins s σ H xs us Q I r h
  obtain ⟨p, ys, rfl, hq, q⟩ := h
  obtain ⟨u, rfl, rx⟩ := yhg r
  cases rx
  have hn := ya8
  rcases hq with hq | hq
  · obtain ⟨its, r', pl, hz⟩ := I.list hq
    have hlen := r'.length
    exact Calls.call_len_list pl.isList (by simp only [List.size_toArray] <;> omega) ⟨.int ys.length, H, I.tok _, ⟨s.toks + 1, by rw [List.size_toArray, hlen]⟩, q⟩
  · obtain ⟨its, r', pl, hz⟩ := I.tuple hq
    have hlen := r'.length
    exact len_tuple pl (by simp only [List.size_toArray] <;> omega) ⟨.int ys.length, H, I.tok _, ⟨s.toks + 1, by rw [List.size_toArray, hlen]⟩, q⟩
theorem yd8.or {f : Value} {r r' : List V -> Hp -> VK -> Prop} (h : yd8 X f r) (h' : yd8 X f r') : yd8 X f (fun xs H Q => r xs H Q \/ r' xs H Q) := by
  intro pins s σ H xs us Q I rs q
  rcases q with q | q
  · exact h pins s σ H xs us Q I rs q
  · exact h' pins s σ H xs us Q I rs q
theorem zew : yd8 X (.type "list") (fun xs H Q => ∃ p ys, xs = [.ref p] /\ (SqL X.K H p ys \/ SqT X.K H p ys) /\ ∀ l, H l = none -> Q (.ref l) (upd H l (.lst ys))) := by
  intro pins s σ H xs us Q I r h
  obtain ⟨p, ys, rfl, hq, q⟩ := h
  obtain ⟨u, rfl, rx⟩ := yhg r
  cases rx
  have fin : ∀ (its : List Value), yhw ys its -> ys.length <= sizeLine -> ∀ (h' : Heap) (c' : Nat), (∀ b o', s.heap.get? b = some o' -> h'.get? b = some o') ->
      h'.get? s.heap.objs.size = some { cls := .type "list", dict := none, data := .seq its.toArray c', slots := #[] } -> EP X pins σ Q (.ref s.heap.objs.size) { s with heap := h' } := fun its r' hz h' c' kp e =>
    ⟨.ref s.heap.objs.size, _, I.laid (t' := s.toks) kp (Nat.le_refl _) (show yed X.prog X.w _ h' _ (.lst ys) from ⟨hz, its, c', r', e⟩), rfl, q _ (I.hok.fresh (Nat.le_refl _))⟩
  rcases hq with hq | hq
  · obtain ⟨its, r', pl, hz⟩ := I.list hq
    have hlen := r'.length
    obtain ⟨o, ho, hc, n, hd⟩ := pl.isList
    exact call_list_seq p (.inl rfl) ho hc hd (fun h' c' kp e => fin its r' hz h' c' kp e) (by simp only [List.size_toArray] <;> omega)
  · obtain ⟨its, r', pl, hz⟩ := I.tuple hq
    have hlen := r'.length
    obtain ⟨o, ho, hc, n, hd⟩ := pl
    exact call_list_seq p (.inr rfl) ho hc hd (fun h' c' kp e => fin its r' hz h' c' kp e) (by simp only [List.size_toArray] <;> omega)
def tyV (K : PySem.W.Frag) (T : String) (x : V) (H : Hp) : Prop := match x with
  | .str _ => T = "str"
  | .int _ => T = "int"
  | .ref p => (T = "list" /\ ∃ xs, SqL K H p xs) \/ (T = "tuple" /\ ∃ o, K.lookup p = some o /\ o.cls = .type "tuple" /\ o.dict = none) \/
      (T = "dict" /\ ((∃ kvs, H p = some (.dK kvs)) \/ ∃ kvs, H p = some (.dT kvs))) \/ (T = "set" /\ ∃ S n, H p = some (.set S n))
  | _ => False
theorem yd4 {pins : List (Addr × Obj)} {σ : St} {H : Hp} {s : Shared} {T : String} {x : V} {v : Value} (I : Inv X pins σ H s) (r : yhr x v) (ty : tyV X.K T x H) :
    s.TypeIs v T /\ ∀ a, v = .ref a -> ∃ ob, s.heap.get? a = some ob /\ ob.dict = none := by
  cases x with
  | str z =>
    obtain ⟨t, rfl⟩ := r
    cases (show T = "str" from ty)
    exact ⟨typeIs_str s z t, fun _ e => nomatch e⟩
  | int i =>
    obtain ⟨t, rfl⟩ := r
    cases (show T = "int" from ty)
    exact ⟨typeIs_int s i t, fun _ e => nomatch e⟩
  | ref p =>
    cases r
    rcases ty with ⟨rfl, xs, hq⟩ | ⟨rfl, o, hk, hc, hd⟩ | ⟨rfl, hk⟩ | ⟨rfl, S, n, hk⟩
    · obtain ⟨its, _, pl, _⟩ := I.list hq
      refine ⟨pl.isList.typeIs, fun a e => ?_⟩
      cases e
      obtain ⟨o, n, e, c, hd, _⟩ := pl
      exact ⟨o, e, hd⟩
    · refine ⟨⟨o, I.kIn p o hk, hc⟩, fun a e => ?_⟩
      cases e
      exact ⟨o, I.kIn _ o hk, hd⟩
    · have z : ∃ o, s.heap.get? p = some o /\ o.ExactDict := by
        rcases hk with ⟨kvs, hk⟩ | ⟨kvs, hk⟩
        · obtain ⟨_, _, _, _, o, _, _, e, ex, _⟩ := I.hok p _ hk
          exact ⟨o, e, ex⟩
        · obtain ⟨_, _, _, _, o, _, _, e, ex, _⟩ := I.hok p _ hk
          exact ⟨o, e, ex⟩
      obtain ⟨o, e, ex⟩ := z
      refine ⟨⟨o, e, ex.1⟩, fun a e2 => ?_⟩
      cases e2
      exact ⟨o, e, ex.2.1⟩
    · obtain ⟨o, _, _, _, e, ex, _⟩ := I.hok p _ hk
      refine ⟨⟨o, e, ex.1⟩, fun a e2 => ?_⟩
      cases e2
      exact ⟨o, e, ex.2.1⟩
  | _ => exact False.elim ty
def tBM (K : PySem.W.Frag) (T : String) (r : V -> List V -> Hp -> VK -> Prop) (to : TE) (t : TA) : TE := fun σ H Q => to σ H fun x H1 => tyV K T x H1 /\ t σ H1 fun xs H2 => r x xs H2 Q
variable {o e : Expr} {es : List Expr} {to : TE} {t : TA} {name : Str} {apos cpos : Pos} {T id : String} {r : V -> List V -> Hp -> VK -> Prop}
theorem ygm (pa : PlainAttrs T) (slot : Slot T name id) (hty : typeOf (.builtin id) = pure (.type "method_descriptor")) (hm : MtR X id r) (ho : PE X o to) (ha : PA X (e :: es) t)
    (hbase : attributeBase o name X.env (eval o X.env) = eval o X.env := by rfl)
    (hfew : ((backTo cpos (starEach (e :: es) X.env)).all (fun x => !x.1) && (backToKw cpos (keywordEach [] X.env)).all (fun x => x.1.isSome)
      && decide ((e :: es).length + ([] : List Keyword).length + (if ([] : List Keyword).isEmpty then 0 else 1) < 30)) = true := by rfl)
    (hline : (apos.endLine == cpos.line) = true := by rfl) (hs : starEach (e :: es) X.env = (false, eval e X.env) :: starEach es X.env := by rfl) (hplain : (backTo cpos (starEach es X.env)).any (·.1) = false := by rfl) :
    PE X (.Call (.Attribute o name apos) (e :: es) [] cpos) (tBM X.K T r to t) := by
  intro pins s σ H Q I h
  refine wpAny_Call_method_late hbase hfew hline rfl (thn (ho pins s σ H _ I h) fun v s1 ⟨x, H1, I1, r1, ty, q1⟩ => ?_)
  obtain ⟨h1, h2⟩ := yd4 I1 r1 ty
  refine ⟨T, id, pa, slot, hty, h1, h2, ?_⟩
  have hA := ha cpos pins s1 σ H1 _ I1 q1
  rw [hs] at hA ⊢
  refine Calls.callWith_builtin (by show (false || (backTo cpos (starEach es X.env)).any (·.1)) = false; rw [hplain] <;> rfl) (Calls.evalArgs_plain ?_)
  exact thn hA fun us s2 ⟨vs, H2, I2, r2, q2⟩ => hm pins s2 σ H2 x vs v us Q I2 r1 r2 q2
end
end L2
namespace L2
open PySem PySem.Spec PyProof.Rows
def MtM (X : Cx) (id : String) (r : V -> List V -> Hp -> VK -> Prop) : Prop :=
  ∀ (pins : List (Addr × Obj)) (s : Shared) (σ : St) (H : Hp) (x : V) (xs : List V) (v : Value) (us : List Value) (Q : VK), Inv X pins σ H s -> yhr x v -> yhw xs us -> r x xs H Q ->
    wpAny (model X.prog X.w) X.A (call (.builtin id) (v :: us)) (EP X pins σ Q) X.xe s
theorem yhw.one : ∀ {x : V} {us : List Value}, yhw [x] us -> ∃ u, us = [u] /\ yhr x u
  | _, _, .cons r .nil => ⟨_, rfl, r⟩
theorem yhw.two : ∀ {x y : V} {us : List Value}, yhw [x, y] us -> ∃ u v, us = [u, v] /\ yhr x u /\ yhr y v
  | _, _, _, .cons r (.cons q .nil) => ⟨_, _, rfl, r, q⟩
theorem yhw.zero : ∀ {us : List Value}, yhw [] us -> us = []
  | _, .nil => rfl
theorem yhw.rep {xs : List V} {us : List Value} (h : yhw xs us) : ∀ k : Nat, yhw (List.replicate k xs).flatten (List.replicate k us).flatten
  | 0 => .nil
  | k + 1 => by
    rw [List.replicate_succ, List.replicate_succ, List.flatten_cons, List.flatten_cons]
    exact yhw.append h (yhw.rep h k)
theorem zkz (its : List Value) : ∀ (k : Nat) (acc : List Value),
    List.foldl (fun x1 x2 => x1 ++ x2) acc.toArray (List.replicate k its.toArray) = (acc ++ (List.replicate k its).flatten).toArray
  | 0, acc => by simp
  | k + 1, acc => by
    have e : acc.toArray ++ its.toArray = (acc ++ its).toArray := by simp
    have e2 : (acc ++ its) ++ (List.replicate k its).flatten = acc ++ (List.replicate (k + 1) its).flatten := by
      rw [List.replicate_succ, List.flatten_cons, List.append_assoc]
    rw [<- e2, <- zkz its k (acc ++ its), <- e, List.replicate_succ, List.foldl_cons]
section
variable {X : Cx} {pins : List (Addr × Obj)} {σ : St} {H : Hp} {s : Shared} {l b : Addr} {xs ys zs : List V}
theorem Inv.lset {its its' : List Value} {n : Nat} {f : Array Value -> Array Value} {t' : Nat} (I : Inv X pins σ H s) (hH : H l = some (.lst xs))
    (e : s.heap.get? l = some { cls := .type "list", data := .seq its.toArray n }) (hf : f its.toArray = its'.toArray) (hv : yhw ys its') (hz : ys.length <= sizeLine) :
    Inv X pins σ (upd H l (.lst ys)) { s with heap := s.heap.update l (Obj.mapSeq f), toks := t' } := by
  have q := PySem.IsL.update e f
  rw [hf] at q
  refine I.write (x := l) (e := l) (by rw [hH]; exact trivial) (.inl rfl) (fun b' u hb hu => (Heap.get?_update_other s.heap (Obj.mapSeq f) (Ne.symm hb)).trans hu) ⟨_, q⟩ ?_
  exact ⟨hz, its', _, hv, q⟩
theorem Inv.lnew {its : List Value} {t' : Nat} (I : Inv X pins σ H s) (hv : yhw ys its) (hz : ys.length <= sizeLine) :
    Inv X pins σ (upd H s.heap.objs.size (.lst ys)) { s with heap := s.heap.push { cls := .type "list", data := .seq its.toArray }, toks := t' } :=
  I.laid (fun _ _ q => Heap.get?_push_of_some _ q) (Nat.le_refl _) ⟨hz, its, 0, hv, Heap.get?_push_size _ rfl⟩
theorem Inv.fresh (I : Inv X pins σ H s) : H s.heap.objs.size = none := I.hok.fresh (Nat.le_refl _)
theorem Inv.lstM (I : Inv X pins σ H s) (hH : H l = some (.lst xs)) : xs.length <= sizeLine /\ ∃ (its : List Value) (n : Nat), yhw xs its /\ xs.length = its.length /\ s.heap.get? l = some { cls := .type "list", data := .seq its.toArray n } := by
  obtain ⟨z, its, n, r, e⟩ := I.hok l _ hH
  exact ⟨z, its, n, r, r.length, e⟩
theorem zpz {n : Nat} (h : n <= sizeLine) : Builtin.List.listTooLong n = false := by
  unfold Builtin.List.listTooLong
  exact decide_eq_false (by omega)
end
section
variable {X : Cx}
def zwt : V -> List V -> Hp -> VK -> Prop := fun x vs H Q => ∃ l xs y, x = .ref l /\ vs = [y] /\ H l = some (.lst xs) /\ xs.length < sizeLine /\ Q .non (upd H l (.lst (xs ++ [y])))
theorem zlx : MtM X "list.append" zwt := by
  intro pins s σ H x vs v us Q I rx rv h
  obtain ⟨l, xs, y, rfl, rfl, hH, hz, q⟩ := h
  cases rx
  obtain ⟨u, rfl, ru⟩ := rv.one
  obtain ⟨z, its, n, r, hl, e⟩ := I.lstM hH
  refine call_meets F.slot_list_append ⟨_, e, rfl⟩ F.entry_list_append (F.args_list_append_2 _ _) (PySem.list_append l its.toArray n u (by rw [List.size_toArray]; omega)) ⟨e, ?_⟩
  refine ⟨.non, _, I.lset (its' := its ++ [u]) hH e (by simp) (r.append (.cons ru .nil)) ?_, rfl, q⟩
  rw [List.length_append, List.length_singleton]
  omega
def zwv : V -> List V -> Hp -> VK -> Prop := fun x vs H Q => ∃ l b xs zs, x = .ref l /\ vs = [.ref b] /\ H l = some (.lst xs) /\ H b = some (.lst zs) /\ xs.length + zs.length <= sizeLine /\ Q .non (upd H l (.lst (xs ++ zs)))
theorem zly : MtM X "list.extend" zwv := by
  intro pins s σ H x vs v us Q I rx rv h
  obtain ⟨l, b, xs, zs, rfl, rfl, hH, hB, hz, q⟩ := h
  cases rx
  obtain ⟨u, rfl, ru⟩ := rv.one
  cases ru
  obtain ⟨z, its, n, r, hl, e⟩ := I.lstM hH
  obtain ⟨z2, its2, n2, r2, hl2, e2⟩ := I.lstM hB
  have hsz : its.toArray.size + its2.toArray.size <= sizeLine := by rw [List.size_toArray, List.size_toArray]; omega
  have hlong : ¬ (!its.toArray.isEmpty && Builtin.List.listTooLong (its.toArray.size + its2.toArray.size)) = true := by
    rw [zpz hsz, Bool.and_false]
    exact Bool.false_ne_true
  refine call_meets F.slot_list_extend ⟨_, e, rfl⟩ F.entry_list_extend (F.args_list_extend_2 _ _)
    (AutoSeq1.list_extend_list_list_0 l its.toArray n b its2.toArray n2 hlong (by rw [List.size_toArray]; omega) (by omega)) ⟨e, e2, ?_⟩
  refine ⟨.non, _, I.lset (its' := its ++ its2) hH e (by simp) (r.append r2) ?_, rfl, q⟩
  rw [List.length_append]
  omega
def rCat : R2 := fun x y H Q => ∃ l b xs zs, x = .ref l /\ y = .ref b /\ H l = some (.lst xs) /\ H b = some (.lst zs) /\ xs.length + zs.length <= sizeLine /\ ∀ p, H p = none -> Q (.ref p) (upd H p (.lst (xs ++ zs)))
theorem yb6 : OpR X (binaryOp .Add) rCat := by
  intro pins s σ H x y v u Q I rx ry h
  obtain ⟨l, b, xs, zs, rfl, rfl, hH, hB, hz, q⟩ := h
  cases rx
  cases ry
  obtain ⟨z, its, n, r, hl, e⟩ := I.lstM hH
  obtain ⟨z2, its2, n2, r2, hl2, e2⟩ := I.lstM hB
  refine PySem.P.add_list e e2 ?_ (by rw [List.size_toArray, List.size_toArray]; omega)
  have ea : its.toArray ++ its2.toArray = (its ++ its2).toArray := by simp
  rw [ea]
  exact ⟨.ref _, _, I.lnew (t' := s.toks) (r.append r2) (by rw [List.length_append]; omega), rfl, q _ I.fresh⟩
def rRep : R2 := fun x y H Q => ∃ l k xs, x = .ref l /\ y = .int k /\ H l = some (.lst xs) /\ -(2 ^ 63) <= k /\ k < 2 ^ 63 /\ xs.length * k.toNat <= sizeLine /\
  ∀ p, H p = none -> Q (.ref p) (upd H p (.lst (List.replicate k.toNat xs).flatten))
theorem zu0 {α : Type} (xs : List α) (k : Nat) : (List.replicate k xs).flatten.length = k * xs.length := by
  induction k with
  | zero => simp
  | succ k ih => rw [List.replicate_succ, List.flatten_cons, List.length_append, ih, Nat.succ_mul, Nat.add_comm]
theorem yce : OpR X (binaryOp .Mult) rRep := by
  intro pins s σ H x y v u Q I rx ry h
  obtain ⟨l, k, xs, rfl, rfl, hH, h1, h2, hz, q⟩ := h
  cases rx
  obtain ⟨t, rfl⟩ := ry
  obtain ⟨z, its, n, r, hl, e⟩ := I.lstM hH
  have hlen : its.toArray.size * k.toNat <= sizeLine := by rw [List.size_toArray, <- hl]; exact hz
  have hcap : ¬ its.toArray.size * k.toNat > (2 ^ 63 - 1) / 8 := by
    have : (sizeLine : Nat) <= (2 ^ 63 - 1) / 8 := by decide
    omega
  have hfit : ¬ (!Builtin.List.listFitsIndex k) = true := by
    rw [fitsIndex_both h1 h2]
    exact Bool.false_ne_true
  have hlong : ¬ Builtin.List.listTooLong (its.toArray.size * k.toNat) = true := by
    rw [zpz hlen]
    exact Bool.false_ne_true
  have hnew : List.foldl (fun x1 x2 => x1 ++ x2) #[] (List.replicate (if its.toArray.isEmpty = true then 0 else k.toNat) its.toArray) = (List.replicate k.toNat its).flatten.toArray := by
    have f0 : ∀ m : Nat, List.foldl (fun x1 x2 => x1 ++ x2) #[] (List.replicate m its.toArray) = (List.replicate m its).flatten.toArray := fun m => by
      have := zkz its m []
      rw [List.nil_append] at this
      exact this
    rw [f0]
    cases its with
    | nil => simp
    | cons a r' => rw [if_neg (by simp)]
  refine wpAny_binaryOp_repeat_ref (T := "list") (U := "int") (by decide) ⟨_, e, rfl⟩ (fun s' => typeIs_int s' k t) noFill_list_mul F.fills_int_mul F.slot_int_rmul repeat_list F.slot_int_index.lookup
    (call_meets F.slot_int_rmul (typeIs_int s k t) F.entry_int_rmul (F.args_int_rmul_2 _ _) (int___rmul___int_list k t l its.toArray n)
      ⟨e, rfl, ⟨_, e, rfl⟩, call_meets F.slot_list_mul ⟨_, e, rfl⟩ F.entry_list_mul (F.args_list_mul_2 _ _) (AutoListH.list___mul___list_int_3 l its.toArray n k t hfit hcap hlong) ⟨e, ?_⟩⟩)
  rw [hnew]
  exact ⟨.ref _, _, I.lnew (t' := s.toks) (r.rep k.toNat) (by rw [zu0, Nat.mul_comm]; exact hz), rfl, q _ I.fresh⟩
end
section
variable {prog : Program} {w : World} {A : Around} {E : Value -> Shared -> Prop} {s : Shared}
set_option maxRecDepth 100000 in
end
section
variable {X : Cx}
end
end L2
namespace Att
open PySem PySem.W PySem.Calls PyProof.Rows
theorem zb2 {P : Params} {h : Heap} : ∀ (ns : List Int) (vs : List Value), WellAll P h vs (ns.map WData.int) -> IntsAre vs ns := by
  intro ns
  induction ns with
  | nil =>
    intro vs w
    rw [List.map_nil] at w
    cases w
    exact .nil
  | cons n ns ih =>
    intro vs w
    rw [List.map_cons] at w
    cases w with
    | cons a b =>
      cases a
      exact .cons _ _ (ih _ b)
theorem zmq {l : OpenLaw} {n : Nat} (hn : l.most = some n) {P : Params} {h : Heap} {args : List WData} {vals : List Value}
    (hpre : l.row.toRowW.claim.pre args = true) (hwl : WellAll P h vals args) :
    ∃ a vs ns, vals = [Value.ref a] /\ args = [WData.list (ns.map WData.int)] /\ h.get? a = some { cls := .type "list", data := .seq vs.toArray } /\ IntsAre vs ns /\ ns.length <= n := by
  have hsh : WShape.hasAll [] args [.list .int] = true := (pre_splitW hpre).1
  have hc : l.pre.holds [] { args := args } = true := (pre_splitW hpre).2
  obtain ⟨d, r, rfl, h1, h2⟩ := hasAllW_cons hsh
  obtain rfl := hasAllW_nil h2
  obtain ⟨xs, rfl, h3⟩ := hasW_list h1
  obtain ⟨ns, rfl⟩ := items_int h3
  have hlen : ns.length <= n := by
    unfold OpenLaw.pre at hc
    have h4 : (WTm.not (.lt (.lit (.int (n : Int))) (.len (.arg 0)))).holds [] { args := [.list (ns.map .int)] } = true := by
      have h4 := (holds_andW hc).1
      rw [hn] at h4
      exact h4
    have h5 := condW_of h4 (w_not (w_lt w_lit (w_len_list (w_arg rfl))))
    rw [List.length_map] at h5
    refine Nat.le_of_not_lt fun q => ?_
    have q' : (n : Int) < ((ns.length : Nat) : Int) := by omega
    first
      | (rw [decide_eq_true q'] at h5; exact absurd h5 (by decide))
      | (simp at h5; omega)
  cases hwl with
  | cons w1 w2 =>
    cases w2
    cases w1 with
    | list ho hall => exact ⟨_, _, ns, rfl, rfl, ho, zb2 ns _ hall, hlen⟩
theorem zmc (l : OpenLaw) (args : List WData) : l.row.toRowW.claim.post args (.bool true) args = true :=
  postW_of (r := l.row.toRowW) (X := (true == true))
    (show WShape.has [] (.bool true) .bool = true by first | rfl | decide | simp [WShape.has, WShape.arms, WShape.armsAll])
    (show (WTm.eq .res (.lit (.bool true))).value [] { args := args, res := some (.bool true), after := args } = some (.bool (true == true)) from w_eq_bool (w_res rfl) w_lit) rfl
theorem attach_call {l : OpenLaw} {n : Nat} {q : Program} {loose : List Str} {XP : (Str -> Option Value) -> Heap -> Prop} {YP : World -> Heap -> Prop} {d : DefRec}
    (hn : l.most = some n) (hdf : d.params.defaults = [])
    (call : ∀ (w : World) (s₀ s₁ : Shared) (mg mb : Str -> Option Value) (fa : Addr) (o : Obj) (pm cd doc : Value) (a : Addr) (vs : List Value) (ns : List Int),
      Ground q loose [] XP w s₀ mg mb s₁.heap -> YP w s₁.heap ->
      s₁.heap.get? fa = some o -> o.data = .func (docDef d.name d.params d.body d.scope pm cd doc) -> s₁.heap.CodeRec cd d.name -> mg d.name = some (.ref fa) ->
      s₁.heap.get? a = some { cls := .type "list", data := .seq vs.toArray } -> IntsAre vs ns -> ns.length <= n -> s₁.gens = #[] ->
      codeAny (model l.prog w) callerA (.call (.ref fa) ⟨[.ref a], []⟩) (fun r s' => r = .ok (.ret (.bool true)) /\ OldK s₁.heap s'.heap /\ s'.os = s₁.os /\ AllBare s'.gens) s₁) :
    WalkO q loose XP YP l.row.toRowW d [] (fun f vs => PySem.call f vs) := by
  intro w s₀ s₁ mg mb G Y fa o pm cd doc dV kV ho hd hcd hD hmg hg args vals as hpre hlay hrd hwl hlo
  obtain rfl : dV = .none := Dflts.none hD hdf
  obtain rfl : kV = .none := Dflts.noKw hD
  obtain ⟨a, vs, ns, rfl, rfl, hobj, hints, hlen⟩ := zmq hn hpre hwl
  refine enter_call (codeAny_mono (call w s₀ s₁ mg mb fa o pm cd doc a vs ns G Y ho (fd_plain hd) hcd hmg hobj hints hlen hg) fun r s' hq => ?_)
  obtain ⟨rfl, h2, h3, h4⟩ := hq
  exact ⟨.inl ⟨.bool true, .bool true, [], rfl, fun _ => rfl, .bool true, zmc l _, fun _ => ⟨List.Pairwise.nil, fun _ hm => (nomatch hm)⟩⟩, h2, h3, h4⟩
section
variable {prog : Program} {w : World} {A : Around} {E : Value -> Shared -> Prop} {s : Shared} {K : Frag}
def ledger (h : Heap) (L d : Addr) : List (Addr × Obj) := (List.range h.objs.size).filterMap fun a => if a = L \/ a = d then none else (h.get? a).map fun o => (a, o)
end
end Att
namespace L2
open PySem PySem.Spec PyProof.Rows
theorem zm7 : ∀ {vs : List Value} {ns : List Int}, IntsAre vs ns -> yhw (ns.map V.int) vs
  | _, _, .nil => .nil
  | _, _, .cons n t h => .cons ⟨t, rfl⟩ (zm7 h)
def yho (H : Hp) : Prop := ∀ b, H b = none \/ ∃ o xs, H b = some (.frz o (.lst xs))
theorem zpc {P : Program} {w : World} {K : PySem.W.Frag} {mg mb : Str -> Option Value} {CX : CXT} {k : Nat} {fa a : Addr} {fd : FuncData} {x : Str} {sp : Sp} {s₁ : Shared} {vs : List Value} {ns : List Int}
    (KX : K.In s₁.heap) (hns : s₁.heap.Ns mainGlobals mg) (hb : s₁.heap.Ns builtinsNs mb) (hbb : ∀ x : Str, x ≠ "__name__" -> mb x = bootBuiltins x) (hlim : s₁.heap.NoLimit) (hg : s₁.gens = #[])
    (ha : s₁.heap.get? a = some { cls := .type "list", data := .seq vs.toArray }) (hi : IntsAre vs ns) (hl : ns.length <= sizeLine) (hr : Room k callerA)
    (F : ∀ base : Heap, K.In base -> base.Ns mainGlobals mg -> FnOk P w K mg base CX k fa fd [x] sp) (hbind : ∀ (s : Shared) (u : Value), BindsTo s fd ⟨[u], []⟩ [(x, u)])
    (hsp : ∀ H : Hp, yho H -> SqL K H a (ns.map V.int) -> sp [.ref a] H (fun v _ => v = .bl true) fun _ _ _ => False)
    (hCX : ∀ H e s', CX [] H s₁ (fun _ _ _ => False) e s' -> False) :
    codeAny (model P w) callerA (.call (.ref fa) ⟨[.ref a], []⟩) (fun r s' => r = .ok (.ret (.bool true)) /\ OldK s₁.heap s'.heap /\ s'.os = s₁.os /\ AllBare s'.gens) s₁ := by
  have rv := zm7 hi
  have lenV := hi.length
  have core : ∀ H : Hp, yho H -> SqL K H a (ns.map V.int) -> HOk P w H s₁.heap -> (∀ b, H b ≠ none -> b = a) -> (H a ≠ none -> K.lookup a = none) ->
      codeAny (model P w) callerA (.call (.ref fa) ⟨[.ref a], []⟩) (fun r s' => r = .ok (.ret (.bool true)) /\ OldK s₁.heap s'.heap /\ s'.os = s₁.os /\ AllBare s'.gens) s₁ := by
    intro H hO hS hok hA hK
    have base_of : ∀ {b : Addr} {o : Obj}, s₁.heap.get? b = some o -> H b = none -> (yii s₁.heap H).get? b = some o := fun e n => zo4 e n
    have noA : ∀ {b : Addr} {o : Obj} {es : Array DictEntry} {ep : Nat}, s₁.heap.get? b = some o -> o.data = .dict es ep -> H b = none := fun {b o es ep} e d => by
      cases q : H b with
      | none => rfl
      | some u =>
        have e' : b = a := hA b (by rw [q]; simp)
        subst e'
        rw [ha] at e; cases e
        have d' : Data.seq vs.toArray _ = Data.dict es ep := d
        cases d'
    have nsK : ∀ {b : Addr} {m : Str -> Option Value}, s₁.heap.Ns b m -> (yii s₁.heap H).Ns b m := fun {b m} ⟨o, es, ep, e, d, r⟩ => ⟨o, es, ep, base_of e (noA e d), d, r⟩
    have hKb : K.In (yii s₁.heap H) := fun b o e => base_of (KX b o e) (by
      cases q : H b with
      | none => rfl
      | some u =>
        have e' : b = a := hA b (by rw [q]; simp)
        subst e'
        rw [hK (by rw [q]; simp)] at e; cases e)
    have hM : Mod K mg (yii s₁.heap H) := ⟨hKb, nsK hns, ⟨mb, nsK hb, hbb⟩, let ⟨mc, h1, h2⟩ := hlim; ⟨mc, nsK h1, h2⟩⟩
    have e0 : Env0 P w K mg (yii s₁.heap H) callerA [] s₁ H := ⟨rfl, hM, fun b o e => zv0 e, Nat.le_of_eq (zk7 _ _), trivial, fun b hb => absurd (show b ∈ ([] : List Addr) from hb) (by simp), hok, .of_eq hg⟩
    refine codeAny_mono ((F _ hKb (nsK hns)).run callerA [] s₁ H ⟨[.ref a], []⟩ [.ref a] [.ref a] _ _ hr e0 (hbind s₁ (.ref a)) (.cons rfl .nil) (hsp H hO hS)) fun r s' h => ?_
    cases r with
    | error e => exact (hCX H e s' h).elim
    | ok fl =>
      cases fl with
      | next => exact False.elim h
      | brk => exact False.elim h
      | cont => exact False.elim h
      | ret u =>
        obtain ⟨v, H', os, bare, un, hok', r', q⟩ := h
        have q' : v = .bl true := q
        subst q'
        obtain rfl : u = Value.bool true := r'
        refine ⟨rfl, OldK.of_keep fun b o e => ?_, os, bare⟩
        cases q : H b with
        | none => exact un.keep b o e q (by intro z; exact absurd (show b ∈ ([] : List Addr) from z) (by simp)) (by simp)
        | some u =>
          rcases hO b with z | ⟨ob, xs, z⟩
          · rw [q] at z; cases z
          · have z2 := un.frzs b ob _ z
            obtain ⟨e1, _⟩ := hok b _ z
            obtain ⟨e2, _⟩ := hok' b _ z2
            rw [e] at e1; cases e1
            exact e2
  cases hk : K.lookup a with
  | some o =>
    have e := KX a o hk
    rw [ha] at e
    cases e
    refine core (fun _ => none) (fun _ => .inl rfl) (.inr ⟨_, vs.toArray, _, hk, rfl, rfl, rfl, by rw [List.size_toArray, lenV]; exact hl, by simpa using rv⟩) (fun b u z => by have z' : (none : Option HO) = some u := z; cases z') (fun b z => absurd rfl z) fun z => absurd rfl z
  | none =>
    refine core (fun b => if b = a then some (.frz { cls := .type "list", data := .seq vs.toArray } (.lst (ns.map V.int))) else none) (fun b => ?_) (.inl (.inr ⟨{ cls := .type "list", data := .seq vs.toArray }, if_pos rfl⟩)) (fun b u z => ?_) (fun b z => ?_) fun _ => hk
    · by_cases hb : b = a
      · exact .inr ⟨_, _, if_pos hb⟩
      · exact .inl (if_neg hb)
    · by_cases hb : b = a
      · have z' := (if_pos hb).symm.trans z
        cases z'
        subst hb
        exact ⟨ha, by rw [List.length_map]; exact hl, vs, _, rv, ha⟩
      · have z' := (if_neg hb).symm.trans z
        cases z'
    · by_cases hb : b = a
      · exact hb
      · exact absurd (if_neg hb) z
end L2
namespace L2
open PySem PySem.Spec PyProof.Rows
abbrev KOf {K : PySem.W.Frag} {h : Heap} (_ : K.In h) : PySem.W.Frag := K
theorem zyd {l : PySem.W.OpenLaw} {n k : Nat} {q : Program} {loose : List Str} {XP : (Str -> Option Value) -> Heap -> Prop} {YP : World -> Heap -> Prop} {d : DefRec} {K : Params -> PySem.W.Frag} {CX : World -> CXT} {sp : World -> Sp} {x : Str}
    (hn : l.most = some n) (hn2 : n <= sizeLine) (hdf : d.params.defaults = []) (hr : Room k callerA)
    (hY : ∀ (w : World) (h : Heap), YP w h -> (K w.params).In h)
    (F : ∀ (w : World) (mg : Str -> Option Value) (fa : Addr) (h : Heap), (K w.params).In h -> h.Ns mainGlobals mg -> mg d.name = some (.ref fa) ->
      ∃ fd : FuncData, (∀ (s : Shared) (u : Value), BindsTo s fd ⟨[u], []⟩ [(x, u)]) /\
        ∀ base : Heap, (K w.params).In base -> base.Ns mainGlobals mg -> FnOk l.prog w (K w.params) mg base (CX w) k fa fd [x] (sp w))
    (hsp : ∀ (w : World) (H : Hp) (a : Addr) (ns : List Int), ns.length <= n -> yho H -> SqL (K w.params) H a (ns.map V.int) -> sp w [.ref a] H (fun v _ => v = .bl true) fun _ _ _ => False)
    (hCX : ∀ (w : World) (H : Hp) (s : Shared) (e : Value) (s' : Shared), CX w [] H s (fun _ _ _ => False) e s' -> False) :
    PySem.W.WalkO q loose XP YP l.row.toRowW d [] (fun f vs => PySem.call f vs) := by
  refine Att.attach_call hn hdf fun w s₀ s₁ mg mb fa o pm cd doc a vs ns G Y ho hd hcd hmg hobj hints hlen hg => ?_
  have KX := hY w _ Y
  obtain ⟨fd, hb, hF⟩ := F w mg fa _ KX G.T.g hmg
  exact zpc KX G.T.g G.T.b G.T.builtins G.T.nolimit hg hobj hints (Nat.le_trans hlen hn2) hr hF hb (fun H hO hS => hsp w H a ns hlen hO hS) fun H e s' => hCX w H s₁ e s'
end L2
namespace L2
open PySem PySem.Spec PyProof.Rows
def zs1 (s : Stmt) : Arguments := match s with
  | .FunctionDef _ a _ _ _ _ _ _ _ _ => a
  | _ => { posonlyargs := [], args := [], vararg := none, kwonlyargs := [], kw_defaults := [], kwarg := none, defaults := [] }
def zs2 (s : Stmt) : List Stmt := match s with
  | .FunctionDef _ _ b _ _ _ _ _ _ _ => b
  | _ => []
def znx (s : Stmt) : Scope := match s with
  | .FunctionDef _ _ _ _ _ _ sc _ _ _ => sc
  | _ => { kind := .function, names := [], isGenerator := false, isCoroutine := false }
abbrev CX0 : CXT := fun _ _ _ _ _ _ => False
abbrev E0 : XK := fun _ _ _ => False
structure Fun (K : PySem.W.Frag) (x qual : Str) (st : Stmt) (f : Addr) (fd : FuncData) : Prop where
  ex : ∃ (oc : Value) (od : Option Addr) (kV doc pm : Value) (an : Option Addr) (cdv ct : Value) (osl : Array (Option Value)),
    fd = PySem.W.fnOf x qual (zs1 st) (zs2 st) (znx st) .none kV doc pm an cdv ct /\ K.lookup f = some ⟨oc, od, .func fd, osl⟩ /\ PySem.W.codeIn K cdv qual = true
  kp : PySem.W.keepIn K (.ref f) = true
section
variable {P : Program} {w : World} {K : PySem.W.Frag} {mg : Str -> Option Value} {base : Heap}
theorem Fun.ok {x qual : Str} {st : Stmt} {f : Addr} {fd : FuncData} {N ps : List Str} {k : Nat} {sp : Sp} (F : Fun K x qual st f fd) (S : FnScope N ps (znx st)) (len : ∀ vs H Q E, sp vs H Q E -> vs.length = ps.length)
    (hbody : ∀ (cdv : Value) (A : Around) (outer : List Env) (s : Shared) (H : Hp) (vs : List V) (Q : VK) (E : XK), Room k (A.deeper (envOfC qual (znx st) s.heap.objs.size f cdv)) -> sp vs H Q E ->
      ∃ t, PSs (yh6 CX0 P w K mg base N qual (znx st) f cdv A outer s H E).nox (zs2 st) t /\ t { nx := fun _ H' => Q .non H', rt := Q } (yha N vs) H) : FnOk P w K mg base CX0 (k + 1) f fd ps sp := by
  obtain ⟨oc, od, kV, doc, pm, an, cdv, ct, osl, rfl, lk, hcd⟩ := F.ex
  refine yfg lk hcd S len fun A outer s H vs Q E hr hsp => ?_
  obtain ⟨t, h, q⟩ := hbody cdv A outer s H vs Q E hr hsp
  exact ⟨t, h.nox, q⟩
theorem Fun.binds {x qual : Str} {st : Stmt} {f : Addr} {fd : FuncData} {ps : List Str} (F : Fun K x qual st f fd)
    (h : ∀ (kV doc pm : Value) (an : Option Addr) (cdv ct : Value) (us : List Value), us.length = ps.length -> bindArgs (PySem.W.fnOf x qual (zs1 st) (zs2 st) (znx st) .none kV doc pm an cdv ct) ⟨us, []⟩ = pure (ps.zip us)) : yd7 K fd ps [] := by
  obtain ⟨oc, od, kV, doc, pm, an, cdv, ct, osl, rfl, lk, hcd⟩ := F.ex
  exact .all (h kV doc pm an cdv ct)
theorem yag {x qual : Str} {st : Stmt} {f : Addr} {oc : Value} {od an : Option Addr} {osl : Array (Option Value)} {kV doc pm cdv ct : Value} (l : K.lookup f = some ⟨oc, od, .func (PySem.W.fnOf x qual (zs1 st) (zs2 st) (znx st) .none kV doc pm an cdv ct), osl⟩)
    (c : PySem.W.codeIn K cdv qual = true) (k : PySem.W.keepIn K (.ref f) = true) : Fun K x qual st f (PySem.W.fnOf x qual (zs1 st) (zs2 st) (znx st) .none kV doc pm an cdv ct) := ⟨⟨oc, od, kV, doc, pm, an, cdv, ct, osl, rfl, l, c⟩, k⟩
end
theorem zmz {n : Nat} (h : n <= 1000) : n < sizeLine := Nat.lt_of_le_of_lt h (by decide)
section
variable {X : Cx}
end
def yhv (H H' : Hp) : Prop := ∀ b o, H b = some o -> H' b = some o
theorem yhv.refl (H : Hp) : yhv H H := fun _ _ h => h
theorem yhv.trans {H H1 H2 : Hp} (a : yhv H H1) (b : yhv H1 H2) : yhv H H2 := fun c o h => b c o (a c o h)
theorem yhv.free {H H' : Hp} (e : yhv H H') {l : Addr} (h : H' l = Option.none) : H l = Option.none := by
  cases q : H l with
  | none => rfl
  | some o =>
    rw [e l o q] at h
    cases h
theorem yhv.seq {K : PySem.W.Frag} {H H' : Hp} {a : Addr} {xs : List V} (e : yhv H H') (h : SqL K H a xs) : SqL K H' a xs := by
  rcases h with (h | ⟨o, h⟩) | h
  · exact .inl (.inl (e _ _ h))
  · exact .inl (.inr ⟨o, e _ _ h⟩)
  · exact .inr h
end L2
namespace L4
open PySem PySem.Spec PyProof.Rows L2
theorem zue {α : Type} (a : α) : ∃ b, b = a := ⟨a, rfl⟩
noncomputable def hide {α : Type} (a : α) : α := Classical.choose (zue a)
@[simp] theorem zud {α : Type} (a : α) : hide a = a := Classical.choose_spec (zue a)
inductive D where
  | non | bl (b : Bool) | int (i : Int) | str (x : Str) | tup (xs : List D) | scr (ns : List Int) | ref (n : Nat)
  | lst (xs : List D) | dic (ks : List Key) (xs : List D) | obj (c : Nat) (ns : List Str) (xs : List D) | exn (c : Nat)
inductive Ob where
  | lst (xs : List D)
  | dic (kvs : List (Key × D))
  | ins (c : Nat) (fs : List (Str × D))
abbrev Sto := List Ob
abbrev St := L2.St
abbrev Ev := List (Option D)
structure Xn where
  cls : Nat
inductive Out (α : Type) where
  | ok (a : α) (σ : Sto)
  | ex (x : Xn) (σ : Sto)
  | bad
abbrev M (α : Type) := Sto -> Out α
def ret {α : Type} (a : α) : M α := fun σ => .ok a σ
def bad {α : Type} : M α := fun _ => .bad
def Out.bind {α β : Type} (o : Out α) (k : α -> M β) : Out β := match o with
  | .ok a σ' => k a σ'
  | .ex x σ' => .ex x σ'
  | .bad => .bad
def bnd {α β : Type} (m : M α) (k : α -> M β) : M β := fun σ => (m σ).bind k
inductive Fl where
  | nx (ρ : Ev) | rt (d : D) | bk (ρ : Ev) | ct (ρ : Ev) | xc (ρ : Ev) (x : Xn)
structure Tb where
  K : PySem.W.Frag
  ca : Nat -> Addr
def Tb.cv (T : Tb) (x : Xn) : Value := .ref (T.ca x.cls)
def yd9 (C a : Addr) : Heap -> Prop := fun h => ∃ o, h.get? a = some o /\ o.cls = .ref C
def Scr (K : PySem.W.Frag) (H : Hp) (a : Addr) (ns : List Int) : Prop :=
  (∃ o, H a = some (.frz o (.lst (ns.map V.int)))) \/
    ∃ (o : Obj) (its : Array Value) (n : Nat), K.lookup a = some o /\ o.cls = .type "list" /\ o.dict = none /\ o.data = .seq its n /\ its.size <= sizeLine /\ yhw (ns.map V.int) its.toList
theorem Scr.seq {K : PySem.W.Frag} {H : Hp} {a : Addr} {ns : List Int} (h : Scr K H a ns) : SqL K H a (ns.map V.int) := by
  rcases h with ⟨o, h⟩ | h
  · exact .inl (.inr ⟨o, h⟩)
  · exact .inr h
mutual
def Rep (T : Tb) (μ : List Addr) (H : Hp) : D -> V -> Prop
  | .non, v => v = .non
  | .bl b, v => v = .bl b
  | .int i, v => v = .int i
  | .str x, v => v = .str x
  | .tup ds, v => ∃ p vs, v = .ref p /\ H p = some (.tup vs) /\ yhu T μ H ds vs
  | .scr ns, v => ∃ a, v = .ref a /\ Scr T.K H a ns
  | .ref n, v => ∃ a, v = .ref a /\ μ[n]? = some a
  | .lst ds, v => ∃ a vs, v = .ref a /\ a ∉ μ /\ H a = some (.lst vs) /\ yhu T μ H ds vs
  | .dic ks ds, v => ∃ a kvs, v = .ref a /\ a ∉ μ /\ H a = some (.dK kvs) /\ kvs.map (·.1) = ks /\ yhu T μ H ds (kvs.map (·.2))
  | .obj c ns ds, v => ∃ a dx fs, v = .ref a /\ a ∉ μ /\ H a = some (.ins (T.ca c) dx fs) /\ fs.map (·.1) = ns /\ yhu T μ H ds (fs.map (·.2))
  | .exn c, v => ∃ a, v = .ref a /\ a ∉ μ /\ H a = some (.ext (yd9 (T.ca c) a))
def yhu (T : Tb) (μ : List Addr) (H : Hp) : List D -> List V -> Prop
  | [], vs => vs = []
  | d :: ds, vs => ∃ v r, vs = v :: r /\ Rep T μ H d v /\ yhu T μ H ds r
end
structure Ext (μ : List Addr) (H : Hp) (μ' : List Addr) (H' : Hp) : Prop where
  pre : ∃ r, μ' = μ ++ r
  tup : ∀ p xs, H p = some (.tup xs) -> H' p = some (.tup xs)
  frz : ∀ p o u, H p = some (.frz o u) -> H' p = some (.frz o u)
  keep : ∀ p o, H p = some o -> p ∉ μ -> H' p = some o /\ p ∉ μ'
theorem Ext.refl (μ : List Addr) (H : Hp) : Ext μ H μ H := ⟨⟨[], by simp⟩, fun _ _ h => h, fun _ _ _ h => h, fun _ _ h n => ⟨h, n⟩⟩
theorem Ext.trans {μ μ1 μ2 : List Addr} {H H1 H2 : Hp} (a : Ext μ H μ1 H1) (b : Ext μ1 H1 μ2 H2) : Ext μ H μ2 H2 := by
  obtain ⟨⟨r, rfl⟩, t1, f1, k1⟩ := a
  obtain ⟨⟨r', rfl⟩, t2, f2, k2⟩ := b
  exact ⟨⟨r ++ r', by simp⟩, fun p xs h => t2 p xs (t1 p xs h), fun p o u h => f2 p o u (f1 p o u h), fun p o h n => k2 p o (k1 p o h n).1 (k1 p o h n).2⟩
theorem Ext.get {μ μ' : List Addr} {H H' : Hp} (e : Ext μ H μ' H') {n : Nat} {a : Addr} (h : μ[n]? = some a) : μ'[n]? = some a := by
  obtain ⟨⟨r, rfl⟩, _, _⟩ := e
  rw [List.getElem?_append_left (List.getElem?_eq_some_iff.mp h).1]; exact h
mutual
theorem Rep.mono {T : Tb} {μ μ' : List Addr} {H H' : Hp} (e : Ext μ H μ' H') : ∀ (d : D) (v : V), Rep T μ H d v -> Rep T μ' H' d v
  | .non, v, h => by simpa [Rep] using h
  | .bl b, v, h => by simpa [Rep] using h
  | .int i, v, h => by simpa [Rep] using h
  | .str x, v, h => by simpa [Rep] using h
  | .tup ds, v, h => by
    rw [Rep] at h ⊢
    obtain ⟨p, vs, h1, h2, h3⟩ := h
    exact ⟨p, vs, h1, e.tup _ _ h2, yhu.mono e ds vs h3⟩
  | .scr ns, v, h => by
    rw [Rep] at h ⊢
    obtain ⟨a, h1, h2⟩ := h
    refine ⟨a, h1, ?_⟩
    rcases h2 with ⟨o, h2⟩ | h2
    · exact .inl ⟨o, e.frz _ _ _ h2⟩
    · exact .inr h2
  | .ref n, v, h => by
    rw [Rep] at h ⊢
    obtain ⟨a, h1, h2⟩ := h
    exact ⟨a, h1, e.get h2⟩
  | .lst ds, v, h => by
    rw [Rep] at h ⊢
    obtain ⟨a, vs, h1, h2, h3, h4⟩ := h
    exact ⟨a, vs, h1, (e.keep _ _ h3 h2).2, (e.keep _ _ h3 h2).1, yhu.mono e ds vs h4⟩
  | .dic ks ds, v, h => by
    rw [Rep] at h ⊢
    obtain ⟨a, vs, h1, h2, h3, h5, h4⟩ := h
    exact ⟨a, vs, h1, (e.keep _ _ h3 h2).2, (e.keep _ _ h3 h2).1, h5, yhu.mono e ds _ h4⟩
  | .obj c ns ds, v, h => by
    rw [Rep] at h ⊢
    obtain ⟨a, dx, vs, h1, h2, h3, h5, h4⟩ := h
    exact ⟨a, dx, vs, h1, (e.keep _ _ h3 h2).2, (e.keep _ _ h3 h2).1, h5, yhu.mono e ds _ h4⟩
  | .exn c, v, h => by
    rw [Rep] at h ⊢
    obtain ⟨a, h1, h2, h3⟩ := h
    exact ⟨a, h1, (e.keep _ _ h3 h2).2, (e.keep _ _ h3 h2).1⟩
theorem yhu.mono {T : Tb} {μ μ' : List Addr} {H H' : Hp} (e : Ext μ H μ' H') : ∀ (ds : List D) (vs : List V), yhu T μ H ds vs -> yhu T μ' H' ds vs
  | [], vs, h => by simpa [yhu] using h
  | d :: ds, vs, h => by
    rw [yhu] at h ⊢
    obtain ⟨v, r, h1, h2, h3⟩ := h
    exact ⟨v, r, h1, Rep.mono e d v h2, yhu.mono e ds r h3⟩
end
theorem yhu.nil {T : Tb} {μ : List Addr} {H : Hp} : yhu T μ H [] [] := by rw [yhu]
theorem yhu.cons {T : Tb} {μ : List Addr} {H : Hp} {d : D} {v : V} {ds : List D} {vs : List V} (h1 : Rep T μ H d v) (h2 : yhu T μ H ds vs) : yhu T μ H (d :: ds) (v :: vs) := by
  rw [yhu]; exact ⟨v, vs, rfl, h1, h2⟩
theorem yhu.length {T : Tb} {μ : List Addr} {H : Hp} : ∀ {ds : List D} {vs : List V}, yhu T μ H ds vs -> ds.length = vs.length
  | [], vs, h => by rw [yhu] at h; subst h; rfl
  | d :: ds, vs, h => by
    rw [yhu] at h
    obtain ⟨v, r, rfl, _, h3⟩ := h
    simp [yhu.length h3]
theorem yhu.get {T : Tb} {μ : List Addr} {H : Hp} : ∀ {ds : List D} {vs : List V} {i : Nat} {d : D}, yhu T μ H ds vs -> ds[i]? = some d -> ∃ v, vs[i]? = some v /\ Rep T μ H d v
  | [], vs, i, d, h, e => by simp at e
  | d :: ds, vs, 0, x, h, e => by
    rw [yhu] at h
    obtain ⟨v, r, rfl, h2, h3⟩ := h
    simp at e; subst e
    exact ⟨v, rfl, h2⟩
  | d :: ds, vs, i + 1, x, h, e => by
    rw [yhu] at h
    obtain ⟨v, r, rfl, h2, h3⟩ := h
    simpa using yhu.get (i := i) h3 (by simpa using e)
theorem yhu.append {T : Tb} {μ : List Addr} {H : Hp} : ∀ {ds es : List D} {vs us : List V}, yhu T μ H ds vs -> yhu T μ H es us -> yhu T μ H (ds ++ es) (vs ++ us)
  | [], es, vs, us, h, h' => by rw [yhu] at h; subst h; simpa using h'
  | d :: ds, es, vs, us, h, h' => by
    rw [yhu] at h
    obtain ⟨v, r, rfl, h2, h3⟩ := h
    exact yhu.cons h2 (yhu.append h3 h')
theorem yhu.set {T : Tb} {μ : List Addr} {H : Hp} {d : D} {v : V} (hd : Rep T μ H d v) : ∀ {ds : List D} {vs : List V} (i : Nat), yhu T μ H ds vs -> yhu T μ H (ds.set i d) (vs.set i v)
  | [], vs, i, h => by rw [yhu] at h; subst h; simpa using yhu.nil
  | x :: ds, vs, 0, h => by
    rw [yhu] at h
    obtain ⟨w, r, rfl, h2, h3⟩ := h
    exact yhu.cons hd h3
  | x :: ds, vs, i + 1, h => by
    rw [yhu] at h
    obtain ⟨w, r, rfl, h2, h3⟩ := h
    exact yhu.cons h2 (yhu.set hd i h3)
theorem yhu.drop {T : Tb} {μ : List Addr} {H : Hp} : ∀ {ds : List D} {vs : List V} (n : Nat), yhu T μ H ds vs -> yhu T μ H (ds.drop n) (vs.drop n)
  | ds, vs, 0, h => by simpa using h
  | [], vs, n + 1, h => by rw [yhu] at h; subst h; simpa using yhu.nil
  | x :: ds, vs, n + 1, h => by
    rw [yhu] at h
    obtain ⟨w, r, rfl, h2, h3⟩ := h
    simpa using yhu.drop n h3
theorem yhu.take {T : Tb} {μ : List Addr} {H : Hp} : ∀ {ds : List D} {vs : List V} (n : Nat), yhu T μ H ds vs -> yhu T μ H (ds.take n) (vs.take n)
  | ds, vs, 0, h => by simpa using yhu.nil
  | [], vs, n + 1, h => by rw [yhu] at h; subst h; simpa using yhu.nil
  | x :: ds, vs, n + 1, h => by
    rw [yhu] at h
    obtain ⟨w, r, rfl, h2, h3⟩ := h
    exact yhu.cons h2 (yhu.take n h3)
def yhs (T : Tb) (μ : List Addr) (H : Hp) : List (Str × D) -> List (Str × V) -> Prop := Paired fun p q => p.1 = q.1 /\ Rep T μ H p.2 q.2
def yht (T : Tb) (μ : List Addr) (H : Hp) : List (Key × D) -> List (Key × V) -> Prop := Paired fun p q => p.1 = q.1 /\ Rep T μ H p.2 q.2
def ObR (T : Tb) (μ : List Addr) (H : Hp) (a : Addr) : Ob -> Prop
  | .lst ds => ∃ vs, H a = some (.lst vs) /\ yhu T μ H ds vs
  | .dic kvs => ∃ vs, H a = some (.dK vs) /\ yht T μ H kvs vs
  | .ins c fs => ∃ dx vs, H a = some (.ins (T.ca c) dx vs) /\ yhs T μ H fs vs
structure Rel (T : Tb) (μ : List Addr) (H : Hp) (σ : Sto) : Prop where
  len : μ.length = σ.length
  nd : μ.Nodup
  obs : ∀ (n : Nat) (o : Ob), σ[n]? = some o -> ∃ a, μ[n]? = some a /\ ObR T μ H a o
def yhl (T : Tb) (μ : List Addr) (H : Hp) (ρ : Ev) (st : St) : Prop := ρ.length = st.length /\ ∀ (i : Nat) (d : D), ρ[i]? = some (some d) -> ∃ v, st[i]? = some (some v) /\ Rep T μ H d v
theorem yhl.mono {T : Tb} {μ μ' : List Addr} {H H' : Hp} {ρ : Ev} {st : St} (e : Ext μ H μ' H') (h : yhl T μ H ρ st) : yhl T μ' H' ρ st :=
  ⟨h.1, fun i d q => let ⟨v, h1, h2⟩ := h.2 i d q; ⟨v, h1, Rep.mono e d v h2⟩⟩
theorem yhl.set {T : Tb} {μ : List Addr} {H : Hp} {ρ : Ev} {st : St} {d : D} {v : V} (h : yhl T μ H ρ st) (i : Nat) (r : Rep T μ H d v) : yhl T μ H (ρ.set i (some d)) (st.set i (some v)) := by
  refine ⟨by simpa using h.1, fun j x q => ?_⟩
  rw [List.getElem?_set] at q
  by_cases hj : i = j
  · subst hj
    rw [if_pos rfl] at q
    split at q
    · rename_i hl
      cases q
      exact ⟨v, by rw [List.getElem?_set, if_pos rfl, if_pos (by rw [<- h.1]; exact hl)], r⟩
    · cases q
  · rw [if_neg hj] at q
    obtain ⟨w, h1, h2⟩ := h.2 j x q
    exact ⟨w, by rw [List.getElem?_set, if_neg hj]; exact h1, h2⟩
structure Fly (P : Program) (w : World) (outer : List Env) (H : Hp) (s : Shared) (cls : Value) (H' : Hp) (e : Value) (s' : Shared) : Prop where
  ex : ∃ (ea : Addr) (a0 : Value) (B : Heap), e = .ref ea /\ Heap.FlyingW B outer ea cls a0 s'.heap /\ H' ea = none /\ s.heap.get? ea = none /\
    (∀ b o, H' b = some o -> ∃ ob, B.get? b = some ob) /\ (∀ b o, s.heap.get? b = some o -> H b = none -> b ∉ frs outer -> B.get? b = some o) /\ (∀ b o, s.heap.get? b = some o -> b ∉ frs outer -> ∃ o', B.get? b = some o')
  os : s'.os = s.os
  bare : AllBare s'.gens
  un : Un (frs outer) [] H H' s.heap s'.heap
  hok : HOk P w H' s'.heap
def CXE (P : Program) (w : World) : CXT := fun outer H s E e s' => ∃ cls H', Fly P w outer H s cls H' e s' /\ E cls none H'
structure Thr (X : Cx) (st : St) (cls : Value) (H' : Hp) : Prop where
  fly : ∀ (pins : List (Addr × Obj)) (H : Hp) (s : Shared) (e : Value) (s' : Shared), Inv X pins st H s -> Fly X.prog X.w X.stack H s cls H' e s' -> X.xe e s'
  made : ∀ (pins : List (Addr × Obj)) (s : Shared) (ea : Addr) (h' : Heap) (args : List Value), Inv X pins st H' s -> Heap.MadeExcOf s.heap h' ea cls args -> X.xe (.ref ea) { s with heap := h' }
abbrev XE (X : Cx) (st : St) : XK := fun cls _ H' => Thr X st cls H'
def yhp {α γ : Type} (T : Tb) (E : XK) (R : List Addr -> Hp -> α -> γ -> Prop) (μ : List Addr) (H : Hp) (o : Out α) (Q : γ -> Hp -> Prop) : Prop := match o with
  | .ok a σ => ∀ μ' g H', Ext μ H μ' H' -> Rel T μ' H' σ -> R μ' H' a g -> Q g H'
  | .ex x σ => ∀ μ' H', Ext μ H μ' H' -> Rel T μ' H' σ -> E (T.cv x) none H'
  | .bad => False
theorem yhp.mono {α γ : Type} {T : Tb} {E : XK} {R : List Addr -> Hp -> α -> γ -> Prop} {μ μ1 : List Addr} {H H1 : Hp} {o : Out α} {Q : γ -> Hp -> Prop} (e : Ext μ H μ1 H1) (h : yhp T E R μ H o Q) : yhp T E R μ1 H1 o Q := by
  cases o with
  | ok a σ => exact fun μ' g H' e' r q => h μ' g H' (e.trans e') r q
  | ex x σ => exact fun μ' H' e' r => h μ' H' (e.trans e') r
  | bad => exact h
theorem yhp.imp {α γ : Type} {T : Tb} {E : XK} {R : List Addr -> Hp -> α -> γ -> Prop} {μ : List Addr} {H : Hp} {o : Out α} {Q Q' : γ -> Hp -> Prop} (h : yhp T E R μ H o Q) (k : ∀ g H', Q g H' -> Q' g H') : yhp T E R μ H o Q' := by
  cases o with
  | ok a σ => exact fun μ' g H' e' r q => k _ _ (h μ' g H' e' r q)
  | ex x σ => exact h
  | bad => exact h
theorem yhp.bind {α β γ δ : Type} {T : Tb} {E : XK} {R : List Addr -> Hp -> α -> γ -> Prop} {R' : List Addr -> Hp -> β -> δ -> Prop} {μ : List Addr} {H : Hp} {m : M α} {k : α -> M β} {σ : Sto} {Q : δ -> Hp -> Prop} {Q1 : γ -> Hp -> Prop}
    (h : yhp T E R' μ H (bnd m k σ) Q) (f : ∀ a σ1 μ1 g H1, m σ = .ok a σ1 -> Ext μ H μ1 H1 -> Rel T μ1 H1 σ1 -> R μ1 H1 a g -> yhp T E R' μ1 H1 (k a σ1) Q -> Q1 g H1) : yhp T E R μ H (m σ) Q1 := by
  unfold bnd at h
  cases e : m σ with
  | ok a σ1 =>
    rw [e] at h
    exact fun μ' g H' e' r q => f a σ1 μ' g H' e e' r q (h.mono e')
  | ex x σ1 => rw [e] at h; exact h
  | bad => rw [e] at h; exact h
theorem yhp.here {T : Tb} {E : XK} {α γ : Type} {R : List Addr -> Hp -> α -> γ -> Prop} {μ : List Addr} {H : Hp} {d : α} {σ : Sto} {g : γ} {Q : γ -> Hp -> Prop} (h : yhp T E R μ H (.ok d σ) Q) (r : Rel T μ H σ) (p : R μ H d g) : Q g H := h μ g H (Ext.refl _ _) r p
section
variable (T : Tb) (X : Cx)
def tF (f : Ev -> M D) : TE := fun st H Q => ∃ μ ρ σ, yhl T μ H ρ st /\ Rel T μ H σ /\ yhp T (XE X st) (Rep T) μ H (f ρ σ) Q
def yee : List Addr -> Hp -> Bool -> Bool -> Prop := fun _ _ a b => b = a
def tT (f : Ev -> M Bool) : TT := fun st H Q => ∃ μ ρ σ, yhl T μ H ρ st /\ Rel T μ H σ /\ yhp T (XE X st) yee μ H (f ρ σ) Q
def tL (f : Ev -> M (List D)) : TA := fun st H Q => ∃ μ ρ σ, yhl T μ H ρ st /\ Rel T μ H σ /\ yhp T (XE X st) (yhu T) μ H (f ρ σ) Q
inductive Gl2 where
  | nx (st : St) | rt (v : V) | bk (st : St) | ct (st : St) | xc (st : St) (cls : Value)
def RFl (T : Tb) (μ : List Addr) (H : Hp) : Fl -> Gl2 -> Prop
  | .nx ρ, .nx st => yhl T μ H ρ st
  | .rt d, .rt v => Rep T μ H d v
  | .bk ρ, .bk st => yhl T μ H ρ st
  | .ct ρ, .ct st => yhl T μ H ρ st
  | .xc ρ x, .xc st cls => yhl T μ H ρ st /\ cls = T.cv x
  | _, _ => False
def yhm (X : Cx) (D : Ends) : Gl2 -> Hp -> Prop
  | .nx st, H => D.nx st H
  | .rt v, H => D.rt v H
  | .bk st, H => D.bk st H
  | .ct st, H => D.ct st H
  | .xc st cls, H => Thr X st cls H
abbrev EN : XK := fun _ _ _ => False
def tS (g : Ev -> M Fl) : TS := fun D st H => ∃ μ ρ σ, yhl T μ H ρ st /\ Rel T μ H σ /\ yhp T EN (RFl T) μ H (g ρ σ) (yhm X D)
end
def xs {α : Type} (ρ : Ev) (m : M α) (k : α -> M Fl) : M Fl := fun σ => match m σ with
  | .ok a σ' => k a σ'
  | .ex x σ' => .ok (.xc ρ x) σ'
  | .bad => .bad
theorem yhp.xs {α γ : Type} {T : Tb} {X : Cx} {D : Ends} {R : List Addr -> Hp -> α -> γ -> Prop} {μ : List Addr} {H : Hp} {ρ : Ev} {st : St} {m : M α} {k : α -> M Fl} {σ : Sto} {Q1 : γ -> Hp -> Prop} (hE : yhl T μ H ρ st)
    (h : yhp T EN (RFl T) μ H (L4.xs ρ m k σ) (yhm X D)) (f : ∀ a σ1 μ1 g H1, m σ = .ok a σ1 -> Ext μ H μ1 H1 -> Rel T μ1 H1 σ1 -> R μ1 H1 a g -> yhp T EN (RFl T) μ1 H1 (k a σ1) (yhm X D) -> Q1 g H1) : yhp T (XE X st) R μ H (m σ) Q1 := by
  unfold L4.xs at h
  cases e : m σ with
  | ok a σ1 =>
    rw [e] at h
    exact fun μ' g H' e' r q => f a σ1 μ' g H' e e' r q (h.mono e')
  | ex x σ1 =>
    rw [e] at h
    intro μ' H' e' r
    exact h μ' (.xc st (T.cv x)) H' e' r ⟨hE.mono e', rfl⟩
  | bad => rw [e] at h; exact h
abbrev FE (T : Tb) (X : Cx) (e : Expr) (f : Ev -> M D) : Prop := PE X e (tF T X f)
abbrev FT (T : Tb) (X : Cx) (e : Expr) (f : Ev -> M Bool) : Prop := PT X e (tT T X f)
abbrev FW (T : Tb) (X : Cx) (e : Expr) (f : Ev -> M Bool) : Prop := PW X e (tT T X f)
abbrev FA (T : Tb) (X : Cx) (es : List Expr) (f : Ev -> M (List D)) : Prop := PA X es (tL T X f)
abbrev FS (T : Tb) (X : Cx) (st : Stmt) (g : Ev -> M Fl) : Prop := PS X st (tS T X g)
abbrev FSs (T : Tb) (X : Cx) (st : List Stmt) (g : Ev -> M Fl) : Prop := PSs X st (tS T X g)
end L4
namespace L4
open PySem PySem.Spec PyProof.Rows L2
def cap : Nat := 1000
theorem zyu {n : Nat} (h : n <= cap) : n <= sizeLine := Nat.le_of_lt (zmz h)
theorem zyv {n : Nat} (h : n < cap) : n < sizeLine := zmz (Nat.le_of_lt h)
theorem zpw {α : Type} {l : List α} (h : l.Nodup) {i j : Nat} {a : α} (hi : l[i]? = some a) (hj : l[j]? = some a) : i = j := by
  obtain ⟨q1, q2⟩ := List.getElem?_eq_some_iff.mp hi
  obtain ⟨q3, q4⟩ := List.getElem?_eq_some_iff.mp hj
  have hp := List.pairwise_iff_getElem.mp h
  rcases Nat.lt_trichotomy i j with z | z | z
  · exact absurd (q2.trans q4.symm) (hp i j q1 q3 z)
  · exact z
  · exact absurd (q4.trans q2.symm) (hp j i q3 q1 z)
section
variable {T : Tb} {μ μ' : List Addr} {H H' : Hp} {σ : Sto}
theorem zg9 {α : Type} (e : Ext μ H μ' H') {xs : List (α × D)} {ys : List (α × V)} (h : Paired (fun (p : α × D) (q : α × V) => p.1 = q.1 /\ Rep T μ H p.2 q.2) xs ys) :
    Paired (fun (p : α × D) (q : α × V) => p.1 = q.1 /\ Rep T μ' H' p.2 q.2) xs ys := L2.Paired.mapP h fun p q z => ⟨z.1, Rep.mono e _ _ z.2⟩
theorem ObR.mono (e : Ext μ H μ' H') {a : Addr} (ha : H' a = H a) : ∀ {o : Ob}, ObR T μ H a o -> ObR T μ' H' a o
  | .lst ds, ⟨vs, h, r⟩ => ⟨vs, ha.trans h, yhu.mono e _ _ r⟩
  | .dic kvs, ⟨vs, h, r⟩ => ⟨vs, ha.trans h, zg9 e r⟩
  | .ins c fs, ⟨dx, vs, h, r⟩ => ⟨dx, vs, ha.trans h, zg9 e r⟩
theorem ObR.some {a : Addr} : ∀ {o : Ob}, ObR T μ H a o -> ∃ u, H a = Option.some u /\ (∀ xs, u ≠ .tup xs) /\ (∀ ob w, u ≠ .frz ob w)
  | .lst ds, ⟨vs, h, r⟩ => ⟨_, h, (fun _ z => by cases z), (fun _ _ z => by cases z)⟩
  | .dic kvs, ⟨vs, h, r⟩ => ⟨_, h, (fun _ z => by cases z), (fun _ _ z => by cases z)⟩
  | .ins c fs, ⟨dx, vs, h, r⟩ => ⟨_, h, (fun _ z => by cases z), (fun _ _ z => by cases z)⟩
theorem Rel.keep (r : Rel T μ H σ) (e : Ext μ H μ H') (k : ∀ a ∈ μ, H' a = H a) : Rel T μ H' σ :=
  ⟨r.len, r.nd, fun n o h => let ⟨a, h1, h2⟩ := r.obs n o h; ⟨a, h1, h2.mono e (k a (List.mem_of_getElem? h1))⟩⟩
theorem Rel.mem (r : Rel T μ H σ) {a : Addr} (h : a ∈ μ) : ∃ u, H a = some u /\ (∀ xs, u ≠ .tup xs) /\ (∀ ob w, u ≠ .frz ob w) := by
  obtain ⟨n, hn⟩ := List.getElem?_of_mem h
  have hl : n < σ.length := by rw [<- r.len]; exact (List.getElem?_eq_some_iff.mp hn).1
  obtain ⟨a', h1, h2⟩ := r.obs n σ[n] (by simp [hl])
  rw [hn] at h1; cases h1
  exact h2.some
theorem ztf {p : Addr} {o : HO} (hp : H p = none) : Ext μ H μ (upd H p o) :=
  ⟨⟨[], by simp⟩, fun q xs h => by rw [upd_ne (ziz h hp)]; exact h, fun q ob u h => by rw [upd_ne (ziz h hp)]; exact h, fun q ob h n => ⟨by rw [upd_ne (ziz h hp)]; exact h, n⟩⟩
theorem Rel.fresh (r : Rel T μ H σ) {p : Addr} {o : HO} (hp : H p = none) : Rel T μ (upd H p o) σ :=
  r.keep (ztf hp) fun a ha => by obtain ⟨u, h, _⟩ := r.mem ha; rw [upd_ne (ziz h hp)]
theorem zn8 {p : Addr} {o : HO} (hp : H p = none) : Ext μ H (μ ++ [p]) (upd H p o) :=
  ⟨⟨[p], rfl⟩, (ztf (μ := μ) hp).tup, (ztf (μ := μ) hp).frz, fun q ob h n => ⟨((ztf (μ := μ) hp).keep q ob h n).1, fun z => (List.mem_append.mp z).elim n fun z => ziz h hp (by simpa using z)⟩⟩
theorem Rel.push (r : Rel T μ H σ) {p : Addr} {o : HO} {ob : Ob} (hp : H p = none) (ho : ObR T (μ ++ [p]) (upd H p o) p ob) : Rel T (μ ++ [p]) (upd H p o) (σ ++ [ob]) := by
  refine ⟨by simp [r.len], ?_, fun n x h => ?_⟩
  · rw [List.nodup_append]
    refine ⟨r.nd, by simp, fun a ha b hb e => ?_⟩
    have eb : b = p := by simpa using hb
    subst eb; subst e
    obtain ⟨u, h, _⟩ := r.mem ha
    rw [hp] at h; cases h
  · by_cases hn : n < σ.length
    · rw [List.getElem?_append_left hn] at h
      obtain ⟨a, h1, h2⟩ := r.obs n x h
      obtain ⟨u, hu, _⟩ := h2.some
      exact ⟨a, by rw [List.getElem?_append_left (by rw [r.len]; exact hn)]; exact h1, h2.mono (zn8 hp) (upd_ne (ziz hu hp))⟩
    · rw [List.getElem?_append_right (by omega)] at h
      have e0 : n - σ.length = 0 := by
        have := (List.getElem?_eq_some_iff.mp h).1
        simp at this; omega
      rw [e0] at h
      simp at h; subst h
      have en : n = μ.length := by rw [r.len]; omega
      subst en
      exact ⟨p, by simp, ho⟩
theorem zqr {p : Addr} {o : HO} (r : Rel T μ H σ) : Rep T (μ ++ [p]) (upd H p o) (.ref σ.length) (.ref p) := by
  rw [Rep]; exact ⟨p, rfl, by rw [<- r.len]; simp⟩
theorem zkv {a : Addr} {u o : HO} (hm : a ∈ μ) (ha : H a = some u) (h1 : ∀ xs, u ≠ .tup xs) (h2 : ∀ ob w, u ≠ .frz ob w) : Ext μ H μ (upd H a o) :=
  ⟨⟨[], by simp⟩, fun q xs h => by rw [upd_ne (yf6 h ha (fun z => h1 xs z.symm))]; exact h, fun q ob w h => by rw [upd_ne (yf6 h ha (fun z => h2 ob w z.symm))]; exact h, fun q ob h n => ⟨by rw [upd_ne (fun z => n (by rw [z]; exact hm))]; exact h, n⟩⟩
theorem Rel.write (r : Rel T μ H σ) {n : Nat} {a : Addr} {o : HO} {ob : Ob} (hn : μ[n]? = some a) (ho : ObR T μ (upd H a o) a ob) : Ext μ H μ (upd H a o) /\ Rel T μ (upd H a o) (σ.set n ob) := by
  obtain ⟨u, hu, h1, h2⟩ := r.mem (List.mem_of_getElem? hn)
  have e : Ext μ H μ (upd H a o) := zkv (List.mem_of_getElem? hn) hu h1 h2
  refine ⟨e, by simp [r.len], r.nd, fun m x h => ?_⟩
  rw [List.getElem?_set] at h
  by_cases hm : n = m
  · subst hm
    rw [if_pos rfl] at h
    split at h
    · cases h
      exact ⟨a, hn, ho⟩
    · cases h
  · rw [if_neg hm] at h
    obtain ⟨b, h3, h4⟩ := r.obs m x h
    refine ⟨b, h3, h4.mono e (upd_ne fun z => hm ?_)⟩
    subst z
    exact zpw r.nd hn h3
theorem Rel.at (r : Rel T μ H σ) {n : Nat} {v : V} {o : Ob} (h : Rep T μ H (.ref n) v) (e : σ[n]? = some o) : ∃ a, v = .ref a /\ μ[n]? = some a /\ ObR T μ H a o := by
  rw [Rep] at h
  obtain ⟨a, rfl, ha⟩ := h
  obtain ⟨a', h1, h2⟩ := r.obs n o e
  rw [ha] at h1; cases h1
  exact ⟨a, rfl, ha, h2⟩
end
def yif (i : Nat) : Ev -> M D := fun ρ σ => match ρ[i]? with
  | some (some d) => .ok d σ
  | _ => .bad
def eC (d : D) : Ev -> M D := fun _ => ret d
def binK (o : D -> D -> M D) (m : M D) (x : D) : M D := bnd m (o x)
def yh9 (o : D -> D -> M D) (a b : Ev -> M D) : Ev -> M D := fun ρ => bnd (a ρ) (binK o (b ρ))
def eUn (o : D -> M D) (a : Ev -> M D) : Ev -> M D := fun ρ => bnd (a ρ) o
def tst (d : D) : M Bool := match d with
  | .bl b => ret b
  | _ => bad
def ifK {α : Type} (p q : M α) (c : Bool) : M α := if c = true then p else q
def notK (c : Bool) : M Bool := ret (!c)
def yhb {α : Type} (k : Bool -> M α) (d : D) : M α := bnd (tst d) k
def eT (f : Ev -> M D) : Ev -> M Bool := fun ρ => bnd (f ρ) tst
def yhz (a b : Ev -> M Bool) : Ev -> M Bool := fun ρ => bnd (a ρ) (ifK (b ρ) (ret false))
def bOr (a b : Ev -> M Bool) : Ev -> M Bool := fun ρ => bnd (a ρ) (ifK (ret true) (b ρ))
def yh0 (a : Ev -> M Bool) : Ev -> M Bool := fun ρ => bnd (a ρ) notK
def yh8 (a b : Ev -> M D) : Ev -> M D := fun ρ => bnd (a ρ) (yhb (ifK (b ρ) (ret (.bl false))))
def eOr (a b : Ev -> M D) : Ev -> M D := fun ρ => bnd (a ρ) (yhb (ifK (ret (.bl true)) (b ρ)))
def yf5 (c : Bool) : M D := ret (.bl (!c))
def eNot (a : Ev -> M D) : Ev -> M D := fun ρ => bnd (a ρ) (yhb yf5)
def eIf (t : Ev -> M Bool) (a b : Ev -> M D) : Ev -> M D := fun ρ => bnd (t ρ) (ifK (a ρ) (b ρ))
def yhx : Ev -> M (List D) := fun _ => ret []
def yev (x : D) (xs : List D) : M (List D) := ret (x :: xs)
def zyh (m : M (List D)) (x : D) : M (List D) := bnd m (yev x)
def yej (e : Ev -> M D) (r : Ev -> M (List D)) : Ev -> M (List D) := fun ρ => bnd (e ρ) (zyh (r ρ))
def yj0 (ds : List D) : M D := if ds.length <= cap then ret (.tup ds) else bad
def yie (a : Ev -> M (List D)) : Ev -> M D := fun ρ => bnd (a ρ) yj0
def yf2 (ds : List D) : M D := fun σ => .ok (.ref σ.length) (σ ++ [.lst ds])
def yip (ds : List D) : M D := if ds.length <= cap then yf2 ds else bad
def yic (a : Ev -> M (List D)) : Ev -> M D := fun ρ => bnd (a ρ) yip
def lvK (ds : List D) : M D := if ds.length <= cap then ret (.lst ds) else bad
def eLv (a : Ev -> M (List D)) : Ev -> M D := fun ρ => bnd (a ρ) lvK
def yeg (T : Tb) (r : R2) (o : D -> D -> M D) : Prop := ∀ (E : XK) μ H σ x y v u Q, Rel T μ H σ -> Rep T μ H x v -> Rep T μ H y u -> yhp T E (Rep T) μ H (o x y σ) Q -> r v u H Q
def yeh (T : Tb) (r : V -> Hp -> VK -> Prop) (o : D -> M D) : Prop := ∀ (E : XK) μ H σ x v Q, Rel T μ H σ -> Rep T μ H x v -> yhp T E (Rep T) μ H (o x σ) Q -> r v H Q
def zr0 (T : Tb) (r : List V -> Hp -> VK -> Prop) (o : List D -> M D) : Prop := ∀ (E : XK) μ H σ xs vs Q, Rel T μ H σ -> yhu T μ H xs vs -> yhp T E (Rep T) μ H (o xs σ) Q -> r vs H Q
section
variable {T : Tb} {X : Cx} {a b c : Expr} {fa fb : Ev -> M D} {ta tb : Ev -> M Bool} {pos : Pos}
theorem zzy (i : Nat) {x : Str} (hN : X.N[i]? = some x := by rfl) (hv : Vis X.env.scope x := by first | exact Or.inl rfl | exact Or.inr (Or.inl rfl) | exact Or.inr (Or.inr rfl)) (hd : (x == ("__debug__" : Str)) = false := by decide)
    (hcd : (x == ("__classdict__" : Str)) = false := by decide) : FE T X (.Name x pos) (yif i) := by
  intro pins s st H Q I h
  obtain ⟨μ, ρ, σ, he, hr, hp⟩ := h
  refine ycr hN hv hd hcd pins s st H Q I ?_
  unfold yif at hp
  cases e : ρ[i]? with
  | none => rw [e] at hp; exact hp.elim
  | some o =>
    cases o with
    | none => rw [e] at hp; exact hp.elim
    | some d =>
      rw [e] at hp
      obtain ⟨v, h1, h2⟩ := he.2 i d e
      exact ⟨v, h1, hp.here hr h2⟩
theorem zoc {e : Expr} {v : V} {d : D} (h : PE X e (tC v)) (r : ∀ μ H, Rep T μ H d v) : FE T X e (eC d) := by
  intro pins s st H Q I hq
  obtain ⟨μ, ρ, σ, he, hr, hp⟩ := hq
  exact h pins s st H Q I (yhp.here hp hr (r _ _))
theorem zzn {i : Int} {j} : FE T X (.Constant (.int i) j pos) (eC (.int i)) := zoc yck fun _ _ => by rw [Rep]
theorem ye8 {i : Bool} {j} : FE T X (.Constant (.bool i) j pos) (eC (.bl i)) := zoc pe_bl fun _ _ => by rw [Rep]
theorem zzt {j} : FE T X (.Constant .none j pos) (eC .non) := zoc ycm fun _ _ => by rw [Rep]
theorem zzw {i : Str} {j} : FE T X (.Constant (.str i) j pos) (eC (.str i)) := zoc ycp fun _ _ => by rw [Rep]
theorem zod {x : Str} {u : Value} {i : Int} (hg : Gl X x) (hm : X.mg x = some u) (r : yhr (.int i) u) (hd : (x == ("__debug__" : Str)) = false := by decide) : FE T X (.Name x pos) (eC (.int i)) := zoc (zwc hg hm r hd) fun _ _ => by rw [Rep]
theorem two {r : R2} {o : D -> D -> M D} (hs : yeg T r o) {st : St} {H : Hp} {Q : VK} (h : tF T X (yh9 o fa fb) st H Q) : tOp r (tF T X fa) (tF T X fb) st H Q := by
  obtain ⟨μ, ρ, σ, he, hr, hp⟩ := h
  exact ⟨μ, ρ, σ, he, hr, hp.bind fun x σ1 μ1 v H1 _ e1 r1 p1 q1 => ⟨μ1, ρ, σ1, he.mono e1, r1, q1.bind fun y σ2 μ2 u H2 _ e2 r2 p2 q2 => hs _ μ2 H2 σ2 x y v u Q r2 (Rep.mono e2 _ _ p1) p2 q2⟩⟩
theorem yfc {op : Operator} {r : R2} {o : D -> D -> M D} (ho : OpR X (binaryOp op) r) (hs : yeg T r o) (ha : FE T X a fa) (hb : FE T X b fb) : FE T X (.BinOp a op b pos) (yh9 o fa fb) :=
  fun pins s st H Q I h => pe_op ho ha hb pins s st H Q I (two hs h)
theorem zzk {op : CmpOp} {r : R2} {o : D -> D -> M D} (ho : OpR X (compareOp op) r) (hs : yeg T r o) (ha : FE T X a fa) (hb : FE T X b fb) (hm : behindInMarks op b = false) : FE T X (.Compare a [op] [b] pos) (yh9 o fa fb) :=
  fun pins s st H Q I h => zwa ho ha hb hm pins s st H Q I (two hs h)
theorem ye9 {r : R2} {o : D -> D -> M D} (ho : IxR X r) (hs : yeg T r o) (ha : FE T X a fa) (hb : FE T X b fb) (hp : zrz b) : FE T X (.Subscript a b pos) (yh9 o fa fb) :=
  fun pins s st H Q I h => pe_ix ho ha hb hp pins s st H Q I (two hs h)
theorem yfd {op : UnaryOp} {r : V -> Hp -> VK -> Prop} {o : D -> M D} (ho : UnR X (unaryOp op) r) (hs : yeh T r o) (ha : FE T X a fa) : FE T X (.UnaryOp op a pos) (eUn o fa) := by
  intro pins s st H Q I h
  refine pe_un ho ha pins s st H Q I ?_
  obtain ⟨μ, ρ, σ, he, hr, hp⟩ := h
  exact ⟨μ, ρ, σ, he, hr, hp.bind fun x σ1 μ1 v H1 _ e1 r1 p1 q1 => hs _ μ1 H1 σ1 x v Q r1 p1 q1⟩
theorem yd2 {E : XK} {d : D} {σ : Sto} {μ : List Addr} {H : Hp} {v : V} {β δ : Type} {R' : List Addr -> Hp -> β -> δ -> Prop} {k : Bool -> M β} {Q : δ -> Hp -> Prop} (r : Rep T μ H d v) (h : yhp T E R' μ H (bnd (tst d) k σ) Q) : ∃ c, d = .bl c /\ v = .bl c /\ yhp T E R' μ H (k c σ) Q := by
  cases d with
  | bl c => rw [Rep] at r; exact ⟨c, rfl, r, h⟩
  | _ => exact h.elim
theorem zx9 {E : XK} {d : D} {σ : Sto} {μ : List Addr} {H : Hp} {v : V} {Q : Bool -> Hp -> Prop} (r : Rep T μ H d v) (h : yhp T E yee μ H (tst d σ) Q) : ∃ c, v = .bl c /\ yhp T E yee μ H (.ok c σ) Q := by
  cases d with
  | bl c => rw [Rep] at r; exact ⟨c, r, h⟩
  | _ => exact h.elim
theorem yad {op : CmpOp} {r : R2} {o : D -> D -> M D} (ho : OpR X (compareOp op) r) (hs : yeg T r o) (ha : FE T X a fa) (hb : FE T X b fb) (hm : behindInMarks op b = false) : FT T X (.Compare a [op] [b] pos) (eT (yh9 o fa fb)) := by
  intro pins s st H Q I h
  refine zwo ho ha hb hm pins s st H Q I ?_
  refine two (o := o) hs ?_
  obtain ⟨μ, ρ, σ, he, hr, hp⟩ := h
  refine ⟨μ, ρ, σ, he, hr, hp.bind fun d σ1 μ1 v H1 _ e1 r1 p1 q1 => ?_⟩
  obtain ⟨k, ev, q⟩ := zx9 p1 q1
  exact ⟨k, ev, q.here r1 rfl⟩
theorem yaf {e : Expr} {f : Ev -> M D} (h : FE T X e f) (he : ∀ whole, isTrue e X.env whole = (do let v <- whole; standAt e.pos; holding [v] (truthy v)) := by intro _; rfl) : FT T X e (eT f) := by
  intro pins s st H Q I hw
  refine yc3 h he pins s st H Q I ?_
  obtain ⟨μ, ρ, σ, hE, hr, hp⟩ := hw
  refine ⟨μ, ρ, σ, hE, hr, hp.bind fun d σ1 μ1 v H1 _ e1 r1 p1 q1 => ?_⟩
  obtain ⟨k, ev, q⟩ := zx9 p1 q1
  exact ⟨k, ev, q.here r1 rfl⟩
theorem yae (h : FT T X a ta) : FT T X (.UnaryOp .Not a pos) (yh0 ta) := by
  intro pins s st H Q I hw
  refine yc2 h pins s st H Q I ?_
  obtain ⟨μ, ρ, σ, hE, hr, hp⟩ := hw
  exact ⟨μ, ρ, σ, hE, hr, hp.bind fun c σ1 μ1 v H1 _ e1 r1 p1 q1 => by cases p1; exact q1.here r1 rfl⟩
variable {yjg : List Expr}
theorem zt5 (h : FT T X a ta) : FW T X (.BoolOp .And [a] pos) ta := zws h
theorem yai (h : FT T X a ta) : FW T X (.BoolOp .Or [a] pos) ta := yc5 h
theorem yah (h : FT T X a ta) (hb : FW T X (.BoolOp .And (b :: yjg) pos) tb) : FW T X (.BoolOp .And (a :: b :: yjg) pos) (yhz ta tb) := by
  intro wh pins s st H Q I hw
  refine yc4 h hb wh pins s st H Q I ?_
  obtain ⟨μ, ρ, σ, hE, hr, hp⟩ := hw
  refine ⟨μ, ρ, σ, hE, hr, hp.bind fun c σ1 μ1 v H1 _ e1 r1 p1 q1 => ?_⟩
  cases p1
  cases c with
  | true => unfold ifK at q1; rw [if_pos rfl] at q1 ⊢; exact ⟨μ1, ρ, σ1, hE.mono e1, r1, q1⟩
  | false => unfold ifK at q1; rw [if_neg Bool.false_ne_true] at q1 ⊢; exact q1.here r1 rfl
theorem yfj (h : FT T X a ta) (hb : FW T X (.BoolOp .Or (b :: yjg) pos) tb) : FW T X (.BoolOp .Or (a :: b :: yjg) pos) (bOr ta tb) := by
  intro wh pins s st H Q I hw
  refine pw_or h hb wh pins s st H Q I ?_
  obtain ⟨μ, ρ, σ, hE, hr, hp⟩ := hw
  refine ⟨μ, ρ, σ, hE, hr, hp.bind fun c σ1 μ1 v H1 _ e1 r1 p1 q1 => ?_⟩
  cases p1
  cases c with
  | true => unfold ifK at q1; rw [if_pos rfl] at q1 ⊢; exact q1.here r1 rfl
  | false => unfold ifK at q1; rw [if_neg Bool.false_ne_true] at q1 ⊢; exact ⟨μ1, ρ, σ1, hE.mono e1, r1, q1⟩
theorem zzv {op} (h : FE T X a fa) : FE T X (.BoolOp op [a] pos) fa := yco h
theorem zzj (h : FE T X a fa) (hb : FE T X (.BoolOp .And (b :: yjg) pos) fb) : FE T X (.BoolOp .And (a :: b :: yjg) pos) (yh8 fa fb) := by
  intro pins s st H Q I hw
  refine yci h hb pins s st H Q I ?_
  obtain ⟨μ, ρ, σ, hE, hr, hp⟩ := hw
  refine ⟨μ, ρ, σ, hE, hr, hp.bind fun d σ1 μ1 v H1 _ e1 r1 p1 q1 => ?_⟩
  obtain ⟨c, rfl, ev, q⟩ := yd2 p1 q1
  refine ⟨c, ev, ?_⟩
  cases c with
  | true => unfold ifK at q; rw [if_pos rfl] at q ⊢; exact ⟨μ1, ρ, σ1, hE.mono e1, r1, q⟩
  | false => unfold ifK at q; rw [if_neg Bool.false_ne_true] at q ⊢; exact yhp.here q r1 (by rw [Rep])
theorem fe_or (h : FE T X a fa) (hb : FE T X (.BoolOp .Or (b :: yjg) pos) fb) : FE T X (.BoolOp .Or (a :: b :: yjg) pos) (eOr fa fb) := by
  intro pins s st H Q I hw
  refine pe_or h hb pins s st H Q I ?_
  obtain ⟨μ, ρ, σ, hE, hr, hp⟩ := hw
  refine ⟨μ, ρ, σ, hE, hr, hp.bind fun d σ1 μ1 v H1 _ e1 r1 p1 q1 => ?_⟩
  obtain ⟨c, rfl, ev, q⟩ := yd2 p1 q1
  refine ⟨c, ev, ?_⟩
  cases c with
  | true => unfold ifK at q; rw [if_pos rfl] at q ⊢; exact yhp.here q r1 (by rw [Rep])
  | false => unfold ifK at q; rw [if_neg Bool.false_ne_true] at q ⊢; exact ⟨μ1, ρ, σ1, hE.mono e1, r1, q⟩
theorem zzu (h : FE T X a fa) : FE T X (.UnaryOp .Not a pos) (eNot fa) := by
  intro pins s st H Q I hw
  refine ycn h pins s st H Q I ?_
  obtain ⟨μ, ρ, σ, hE, hr, hp⟩ := hw
  refine ⟨μ, ρ, σ, hE, hr, hp.bind fun d σ1 μ1 v H1 _ e1 r1 p1 q1 => ?_⟩
  obtain ⟨c, rfl, ev, q⟩ := yd2 p1 q1
  exact ⟨c, ev, yhp.here q r1 (by rw [Rep])⟩
theorem zoe (hc : FT T X c ta) (ha : FE T X a fa) (hb : FE T X b fb) : FE T X (.IfExp c a b pos) (eIf ta fa fb) := by
  intro pins s st H Q I hw
  refine zqg hc ha hb pins s st H Q I ?_
  obtain ⟨μ, ρ, σ, hE, hr, hp⟩ := hw
  refine ⟨μ, ρ, σ, hE, hr, hp.bind fun d σ1 μ1 v H1 _ e1 r1 p1 q1 => ?_⟩
  cases p1
  cases d with
  | true => unfold ifK at q1; rw [if_pos rfl] at q1 ⊢; exact ⟨μ1, ρ, σ1, hE.mono e1, r1, q1⟩
  | false => unfold ifK at q1; rw [if_neg Bool.false_ne_true] at q1 ⊢; exact ⟨μ1, ρ, σ1, hE.mono e1, r1, q1⟩
variable {e : Expr} {es : List Expr} {fe : Ev -> M D} {fs : Ev -> M (List D)}
theorem zzi : FA T X [] yhx := by
  intro pos pins s st H Q I hw
  refine ych pos pins s st H Q I ?_
  obtain ⟨μ, ρ, σ, hE, hr, hp⟩ := hw
  exact yhp.here hp hr yhu.nil
theorem ztg (ha : FE T X e fe) (hr : FA T X es fs) (hs : starEach (e :: es) X.env = (false, eval e X.env) :: starEach es X.env := by rfl) : FA T X (e :: es) (yej fe fs) := by
  intro pos pins s st H Q I hw
  refine zv7 ha hr hs pos pins s st H Q I ?_
  obtain ⟨μ, ρ, σ, hE, hr, hp⟩ := hw
  exact ⟨μ, ρ, σ, hE, hr, hp.bind fun d σ1 μ1 v H1 _ e1 r1 p1 q1 => ⟨μ1, ρ, σ1, hE.mono e1, r1, q1.bind fun ds σ2 μ2 vs H2 _ e2 r2 p2 q2 => yhp.here q2 r2 (yhu.cons (Rep.mono e2 _ _ p1) p2)⟩⟩
theorem zvj {E : XK} {μ : List Addr} {H : Hp} {σ : Sto} {ds : List D} {vs : List V} {Q : VK} {p : Addr} (h : yhp T E (Rep T) μ H (.ok (.tup ds) σ) Q) (r : Rel T μ H σ) (q : yhu T μ H ds vs) (hp : H p = none) : Q (.ref p) (upd H p (.tup vs)) :=
  h μ (.ref p) _ (ztf hp) (r.fresh hp) (by rw [Rep]; exact ⟨p, vs, rfl, upd_same, yhu.mono (ztf hp) _ _ q⟩)
theorem zvi {E : XK} {μ : List Addr} {H : Hp} {σ : Sto} {ds : List D} {vs : List V} {Q : VK} {p : Addr} (h : yhp T E (Rep T) μ H (yf2 ds σ) Q) (r : Rel T μ H σ) (q : yhu T μ H ds vs) (hp : H p = none) : Q (.ref p) (upd H p (.lst vs)) :=
  h (μ ++ [p]) (.ref p) _ (zn8 hp) (r.push hp ⟨vs, upd_same, yhu.mono (zn8 hp) _ _ q⟩) (zqr r)
theorem zzx {x1} (h : FA T X es fs) : FE T X (.Tuple es x1 pos) (yie fs) := by
  intro pins s st H Q I hw
  refine ycq h pins s st H Q I ?_
  obtain ⟨μ, ρ, σ, hE, hr, hp⟩ := hw
  refine ⟨μ, ρ, σ, hE, hr, hp.bind fun ds σ1 μ1 vs H1 _ e1 r1 p1 q1 => ?_⟩
  unfold yj0 at q1
  by_cases hl : ds.length <= cap
  · rw [if_pos hl] at q1
    exact ⟨by rw [<- p1.length]; exact zyu hl, fun p hp => zvj q1 r1 p1 hp⟩
  · rw [if_neg hl] at q1; exact q1.elim
theorem zzr (h : FA T X es fs) : FE T X (.List es pos) (yic fs) := by
  intro pins s st H Q I hw
  refine ycl h pins s st H Q I ?_
  obtain ⟨μ, ρ, σ, hE, hr, hp⟩ := hw
  refine ⟨μ, ρ, σ, hE, hr, hp.bind fun ds σ1 μ1 vs H1 _ e1 r1 p1 q1 => ?_⟩
  unfold yip at q1
  by_cases hl : ds.length <= cap
  · rw [if_pos hl] at q1
    exact ⟨by rw [<- p1.length]; exact zyu hl, fun p hp => zvi q1 r1 p1 hp⟩
  · rw [if_neg hl] at q1; exact q1.elim
theorem ybm {E : XK} {μ : List Addr} {H : Hp} {σ : Sto} {ds : List D} {vs : List V} {Q : VK} {p : Addr} (h : yhp T E (Rep T) μ H (.ok (.lst ds) σ) Q) (r : Rel T μ H σ) (q : yhu T μ H ds vs) (hp : H p = none) : Q (.ref p) (upd H p (.lst vs)) :=
  h μ (.ref p) _ (ztf hp) (r.fresh hp) (by rw [Rep]; exact ⟨p, vs, rfl, fun hm => (by obtain ⟨u, hu, _⟩ := r.mem hm; rw [hp] at hu; cases hu), upd_same, yhu.mono (ztf hp) _ _ q⟩)
theorem yfb (h : FA T X es fs) : FE T X (.List es pos) (eLv fs) := by
  intro pins s st H Q I hw
  refine ycl h pins s st H Q I ?_
  obtain ⟨μ, ρ, σ, hE, hr, hp⟩ := hw
  refine ⟨μ, ρ, σ, hE, hr, hp.bind fun ds σ1 μ1 vs H1 _ e1 r1 p1 q1 => ?_⟩
  unfold lvK at q1
  by_cases hl : ds.length <= cap
  · rw [if_pos hl] at q1
    exact ⟨by rw [<- p1.length]; exact zyu hl, fun p hp => ybm q1 r1 p1 hp⟩
  · rw [if_neg hl] at q1; exact q1.elim
end
end L4
namespace L4
open PySem PySem.Spec PyProof.Rows L2
def oI (g : Int -> Int -> Int) : D -> D -> M D
  | .int i, .int j => ret (.int (g i j))
  | _, _ => bad
def oB (g : Int -> Int -> Bool) : D -> D -> M D
  | .int i, .int j => ret (.bl (g i j))
  | _, _ => bad
def oIC (C : Int -> Int -> Bool) (g : Int -> Int -> Int) : D -> D -> M D
  | .int i, .int j => if C i j = true then ret (.int (g i j)) else bad
  | _, _ => bad
noncomputable def yh1 (i j : Int) : Bool := hide ((decide (-(2 ^ 64) < i) && decide (i < 2 ^ 64)) || (decide (-(2 ^ 64) < j) && decide (j < 2 ^ 64)))
noncomputable def cDiv (_ j : Int) : Bool := hide (decide (0 < j) && decide (j < 1073741824))
noncomputable def cMod (_ j : Int) : Bool := hide (decide (0 < j))
noncomputable def yh2 (i j : Int) : Bool := hide (decide (0 <= j) && decide (j <= 1000000) && decide (i.natAbs < 2 ^ 64))
noncomputable def cShr (_ j : Int) : Bool := hide (decide (0 <= j))
abbrev yi8 := oI (fun i j => i - j)
noncomputable abbrev yi3 := oIC yh1 (fun i j => i * j)
noncomputable abbrev yiw := oIC cDiv (fun i j => i / j)
noncomputable abbrev yi2 := oIC cMod (fun i j => i % j)
noncomputable abbrev yi5 := oIC yh2 (fun i j => i ^ j.toNat)
noncomputable abbrev oShr := oIC cShr (fun i j => i / 2 ^ j.toNat)
abbrev yf9 := oI (fun i j => Builtin.bitAnd i j)
abbrev oLt := oB (fun i j => decide (i < j))
abbrev oLe := oB (fun i j => decide (i <= j))
abbrev oGt := oB (fun i j => decide (j < i))
abbrev oGe := oB (fun i j => decide (j <= i))
def yi4 : D -> M D
  | .int i => ret (.int (-i))
  | _ => bad
def rD (T : Tb) (o : D -> D -> M D) : R2 := fun v u H Q => ∃ (E : XK) (μ : List Addr) (σ : Sto) (x y : D), Rel T μ H σ /\ Rep T μ H x v /\ Rep T μ H y u /\ yhp T E (Rep T) μ H (o x y σ) Q
theorem yju {T : Tb} {o : D -> D -> M D} : yeg T (rD T o) o := fun E μ H σ x y v u Q r p q h => ⟨E, μ, σ, x, y, r, p, q, h⟩
section
variable {T : Tb} {X : Cx}
theorem yap {μ : List Addr} {H : Hp} {i : Int} {v : V} (h : Rep T μ H (.int i) v) : v = .int i := by simpa [Rep] using h
theorem yg8 {g : Int -> Int -> Int} : yeg T (rI0 fun i j => .int (g i j)) (oI g) := by
  intro E μ H σ x y v u Q r p q h
  cases x with
  | int i =>
    cases y with
    | int j => exact ⟨i, j, yap p, yap q, yhp.here h r (by rw [Rep])⟩
    | _ => exact h.elim
  | _ => exact h.elim
theorem yg7 {g : Int -> Int -> Bool} : yeg T (rI0 fun i j => .bl (g i j)) (oB g) := by
  intro E μ H σ x y v u Q r p q h
  cases x with
  | int i =>
    cases y with
    | int j => exact ⟨i, j, yap p, yap q, yhp.here h r (by rw [Rep])⟩
    | _ => exact h.elim
  | _ => exact h.elim
theorem ydm {C : Int -> Int -> Bool} {C' : Int -> Int -> Prop} {g : Int -> Int -> Int} (hC : ∀ i j, C i j = true -> C' i j) : yeg T (rI C' fun i j => .int (g i j)) (oIC C g) := by
  intro E μ H σ x y v u Q r p q h
  cases x with
  | int i =>
    cases y with
    | int j =>
      by_cases hc : C i j = true
      · have h' : yhp T E (Rep T) μ H (ret (.int (g i j)) σ) Q := by
          have e : oIC C g (.int i) (.int j) = ret (.int (g i j)) := by show (if C i j = true then _ else _) = _; rw [if_pos hc]
          rw [e] at h; exact h
        exact ⟨i, j, yap p, yap q, hC i j hc, yhp.here h' r (by rw [Rep])⟩
      · have e : oIC C g (.int i) (.int j) = bad := by show (if C i j = true then _ else _) = _; rw [if_neg hc]
        rw [e] at h; exact h.elim
    | _ => exact h.elim
  | _ => exact h.elim
theorem zxy : yeg T (rI0 fun i j => .int (i - j)) yi8 := yg8
theorem zxu : yeg T (rI CMul fun i j => .int (i * j)) yi3 := ydm fun i j h => by
  simp only [yh1, zud, Bool.or_eq_true, Bool.and_eq_true, decide_eq_true_eq] at h; exact h
theorem zxq : yeg T (rI CDiv fun i j => .int (i / j)) yiw := ydm fun i j h => by
  simp only [cDiv, zud, Bool.and_eq_true, decide_eq_true_eq] at h; exact h
theorem zxt : yeg T (rI (fun _ j => 0 < j) fun i j => .int (i % j)) yi2 := ydm fun i j h => by
  simp only [cMod, zud, decide_eq_true_eq] at h; exact h
theorem zxw : yeg T (rI CPow fun i j => .int (i ^ j.toNat)) yi5 := ydm fun i j h => by
  simp only [yh2, zud, Bool.and_eq_true, decide_eq_true_eq] at h; exact ⟨h.1.1, h.1.2, h.2⟩
theorem zxx : yeg T (rI (fun _ j => 0 <= j) fun i j => .int (i / 2 ^ j.toNat)) oShr := ydm fun i j h => by
  simp only [cShr, zud, decide_eq_true_eq] at h; exact h
theorem zrb : yeg T (rI0 fun i j => .int (Builtin.bitAnd i j)) yf9 := yg8
theorem yds : yeg T (rI0 fun i j => .bl (decide (i < j))) oLt := yg7
theorem ydr : yeg T (rI0 fun i j => .bl (decide (i <= j))) oLe := yg7
theorem ydo : yeg T (rI0 fun i j => .bl (decide (j < i))) oGt := yg7
theorem ydn : yeg T (rI0 fun i j => .bl (decide (j <= i))) oGe := yg7
theorem zxv : yeh T (rU fun i => .int (-i)) yi4 := by
  intro E μ H σ x v Q r p h
  cases x with
  | int i => exact ⟨i, yap p, yhp.here h r (by rw [Rep])⟩
  | _ => exact h.elim
end
def sc : D -> Option V
  | .non => some .non
  | .bl b => some (.bl b)
  | .int i => some (.int i)
  | .str x => some (.str x)
  | _ => none
def yfy (σ : Sto) (n : Nat) : Option (List D) := match σ[n]? with
  | some (.lst xs) => some xs
  | _ => none
theorem zit {σ : Sto} {n : Nat} {xs : List D} (h : yfy σ n = some xs) : σ[n]? = some (.lst xs) := by
  unfold yfy at h
  cases e : σ[n]? with
  | none => rw [e] at h; cases h
  | some o => rw [e] at h; cases o <;> simp at h; subst h; rfl
inductive Kd where
  | s (v : V) | t (xs : List D) | l (xs : List D) | o
def kd (σ : Sto) : D -> Kd
  | .non => .s .non
  | .bl b => .s (.bl b)
  | .int i => .s (.int i)
  | .str x => .s (.str x)
  | .tup xs => .t xs
  | .lst xs => .l xs
  | .ref n => match yfy σ n with
    | some xs => .l xs
    | none => .o
  | _ => .o
def eqL (f : D -> D -> Option Bool) : List D -> List D -> Option Bool
  | [], [] => some true
  | [], _ :: _ => some false
  | _ :: _, [] => some false
  | x :: xs, y :: ys => match f x y, eqL f xs ys with
    | some b, some c => some (b && c)
    | _, _ => none
def eqK (f : D -> D -> Option Bool) : Kd -> Kd -> Option Bool
  | .s a, .s b => some (eqV a b)
  | .t xs, .t ys => eqL f xs ys
  | .l xs, .l ys => eqL f xs ys
  | .s _, .t _ => some false
  | .t _, .s _ => some false
  | .s _, .l _ => some false
  | .l _, .s _ => some false
  | .t _, .l _ => some false
  | .l _, .t _ => some false
  | _, _ => none
def eqD (σ : Sto) : Nat -> D -> D -> Option Bool
  | 0, x, y => eqK (fun _ _ => none) (kd σ x) (kd σ y)
  | n + 1, x, y => eqK (eqD σ n) (kd σ x) (kd σ y)
def eAt (f : D -> D -> Option Bool) (xs ys : List D) (j : Nat) : Bool := match xs[j]?, ys[j]? with
  | some a, some b => (f a b).getD false
  | _, _ => false
theorem zn6 (f : D -> D -> Option Bool) : ∀ (xs ys : List D) (b : Bool), eqL f xs ys = some b ->
    (∀ (j : Nat) (a c : D), xs[j]? = some a -> ys[j]? = some c -> ∃ k, f a c = some k) /\ b = ((List.range (min xs.length ys.length)).all (eAt f xs ys) && xs.length == ys.length)
  | [], [], b, h => by simp [eqL] at h; subst h; simp
  | [], y :: ys, b, h => by simp [eqL] at h; subst h; simp
  | x :: xs, [], b, h => by simp [eqL] at h; subst h; simp
  | x :: xs, y :: ys, b, h => by
    unfold eqL at h
    cases e1 : f x y with
    | none => rw [e1] at h; cases h
    | some b1 =>
      cases e2 : eqL f xs ys with
      | none => rw [e1, e2] at h; cases h
      | some b2 =>
        rw [e1, e2] at h
        cases h
        obtain ⟨h1, h2⟩ := zn6 f xs ys b2 e2
        refine ⟨fun j a c ha hc => ?_, ?_⟩
        · cases j with
          | zero => simp at ha hc; subst ha; subst hc; exact ⟨b1, e1⟩
          | succ j => exact h1 j a c (by simpa using ha) (by simpa using hc)
        · have e3 : min (x :: xs).length (y :: ys).length = min xs.length ys.length + 1 := by simp [Nat.succ_min_succ]
          have e4 : ∀ j, eAt f (x :: xs) (y :: ys) (j + 1) = eAt f xs ys j := fun j => by simp [eAt]
          have e5 : eAt f (x :: xs) (y :: ys) 0 = b1 := by simp [eAt, e1]
          rw [e3, List.range_succ_eq_map, List.all_cons, List.all_map, e5, h2]
          have e6 : (eAt f (x :: xs) (y :: ys) ∘ Nat.succ) = eAt f xs ys := funext fun j => e4 j
          have e7 : ((x :: xs).length == (y :: ys).length) = (xs.length == ys.length) := by simp
          rw [e6, e7, Bool.and_assoc]
section
variable {T : Tb} {μ : List Addr} {H : Hp} {σ : Sto}
theorem Rel.lst (r : Rel T μ H σ) {n : Nat} {v : V} {xs : List D} (h : Rep T μ H (.ref n) v) (e : yfy σ n = some xs) : ∃ a vs, v = .ref a /\ μ[n]? = some a /\ H a = some (.lst vs) /\ yhu T μ H xs vs := by
  obtain ⟨a, rfl, h1, vs, h2, h3⟩ := r.at h (zit e)
  exact ⟨a, vs, rfl, h1, h2, h3⟩
theorem ydg {d : D} {v a : V} (h : Rep T μ H d v) (e : sc d = some a) : v = a := by
  cases d <;> simp [sc] at e <;> subst e <;> simpa [Rep] using h
theorem zw8 {d : D} {a : V} (e : sc d = some a) : yff a = true := by
  cases d <;> simp [sc] at e <;> subst e <;> rfl
theorem zn7 {a : V} (h : yff a = true) : eqV a a = true := by cases a <;> simp [yff, eqV] at h ⊢
theorem yau (r : Rel T μ H σ) {d : D} {v : V} (h : Rep T μ H d v) : match kd σ d with
    | .s a => v = a /\ yff a = true
    | .t xs => ∃ p vs, v = .ref p /\ H p = some (.tup vs) /\ yhu T μ H xs vs
    | .l xs => ∃ p vs, v = .ref p /\ H p = some (.lst vs) /\ yhu T μ H xs vs
    | .o => True := by
  cases d with
  | non => exact ⟨by simpa [Rep] using h, rfl⟩
  | bl b => exact ⟨by simpa [Rep] using h, rfl⟩
  | int b => exact ⟨by simpa [Rep] using h, rfl⟩
  | str b => exact ⟨by simpa [Rep] using h, rfl⟩
  | tup xs => rw [Rep] at h; exact h
  | lst xs => rw [Rep] at h; obtain ⟨a, vs, h1, _, h2, h3⟩ := h; exact ⟨a, vs, h1, h2, h3⟩
  | ref n =>
    unfold kd
    dsimp only
    cases e : yfy σ n with
    | none => trivial
    | some xs => obtain ⟨a, vs, h1, _, h2, h3⟩ := r.lst h e; exact ⟨a, vs, h1, h2, h3⟩
  | _ => trivial
theorem zn5 {f : D -> D -> Option Bool} (hf : ∀ (x y : D) (v : V) (b : Bool), Rep T μ H x v -> Rep T μ H y v -> f x y = some b -> b = true) : ∀ (xs ys : List D) (vs : List V) (b : Bool), yhu T μ H xs vs -> yhu T μ H ys vs -> eqL f xs ys = some b -> b = true
  | [], ys, vs, b, r1, r2, h => by
    rw [yhu] at r1; subst r1
    cases ys with
    | nil => simp [eqL] at h; exact h
    | cons y ys => rw [yhu] at r2; obtain ⟨_, _, z, _⟩ := r2; cases z
  | x :: xs, ys, vs, b, r1, r2, h => by
    rw [yhu] at r1; obtain ⟨v, r, rfl, p1, q1⟩ := r1
    cases ys with
    | nil => rw [yhu] at r2; cases r2
    | cons y ys =>
      rw [yhu] at r2; obtain ⟨v', r', z, p2, q2⟩ := r2
      cases z
      unfold eqL at h
      cases e1 : f x y with
      | none => rw [e1] at h; cases h
      | some b1 =>
        cases e2 : eqL f xs ys with
        | none => rw [e1, e2] at h; cases h
        | some b2 =>
          rw [e1, e2] at h; cases h
          rw [hf x y v b1 p1 p2 e1, zn5 hf xs ys r b2 q1 q2 e2]; rfl
theorem zn3 (r : Rel T μ H σ) {f : D -> D -> Option Bool} (hf : ∀ (x y : D) (v : V) (b : Bool), Rep T μ H x v -> Rep T μ H y v -> f x y = some b -> b = true) {x y : D} {v : V} {b : Bool} (hx : Rep T μ H x v) (hy : Rep T μ H y v) (h : eqK f (kd σ x) (kd σ y) = some b) : b = true := by
  have kx := yau r hx
  have ky := yau r hy
  generalize kd σ x = k1 at h kx
  generalize kd σ y = k2 at h ky
  cases k1 with
  | s a =>
    obtain ⟨rfl, fa⟩ := kx
    cases k2 with
    | s c => obtain ⟨rfl, _⟩ := ky; cases h; exact zn7 fa
    | t xs => obtain ⟨p, vs, rfl, _⟩ := ky; simp [yff] at fa
    | l xs => obtain ⟨p, vs, rfl, _⟩ := ky; simp [yff] at fa
    | o => cases h
  | t xs =>
    obtain ⟨p, vs, rfl, h1, r1⟩ := kx
    cases k2 with
    | s c => obtain ⟨e, fa⟩ := ky; rw [<- e] at fa; simp [yff] at fa
    | t ys =>
      obtain ⟨q, ws, e, h2, r2⟩ := ky
      cases e; rw [h1] at h2; cases h2
      exact zn5 hf xs ys vs b r1 r2 h
    | l ys => obtain ⟨q, ws, e, h2, r2⟩ := ky; cases e; rw [h1] at h2; cases h2
    | o => cases h
  | l xs =>
    obtain ⟨p, vs, rfl, h1, r1⟩ := kx
    cases k2 with
    | s c => obtain ⟨e, fa⟩ := ky; rw [<- e] at fa; simp [yff] at fa
    | t ys => obtain ⟨q, ws, e, h2, r2⟩ := ky; cases e; rw [h1] at h2; cases h2
    | l ys =>
      obtain ⟨q, ws, e, h2, r2⟩ := ky
      cases e; rw [h1] at h2; cases h2
      exact zn5 hf xs ys vs b r1 r2 h
    | o => cases h
  | o => cases h
theorem zn2 (r : Rel T μ H σ) : ∀ (n : Nat) (x y : D) (v : V) (b : Bool), Rep T μ H x v -> Rep T μ H y v -> eqD σ n x y = some b -> b = true
  | 0, x, y, v, b, hx, hy, h => zn3 r (fun _ _ _ _ _ _ z => by cases z) hx hy h
  | n + 1, x, y, v, b, hx, hy, h => zn3 r (fun x y v b a1 a2 a3 => zn2 r n x y v b a1 a2 a3) hx hy h
end
section
variable {T : Tb} {X : Cx} {pins : List (Addr × Obj)} {st : St} {μ : List Addr} {H : Hp} {s : Shared} {σ : Sto}
theorem zht {A : Around} {a : V} {u : Value} {p : Addr} {its : Array Value} (fa : yff a = true) (r : yhr a u) (hp : s.heap.IsTuple p its) (hu : A.units < cLine) : SeqAt.EqAt A s u (.ref p) false /\ SeqAt.EqAt A s (.ref p) u false /\ SeqAt.RcAt A s u (.ref p) false /\ SeqAt.RcAt A s (.ref p) u false /\ SeqAt.RcNeAt A s u (.ref p) true /\ SeqAt.RcNeAt A s (.ref p) u true := by
  cases a with
  | non => cases r; exact ⟨.none_tuple hp hu, .tuple_none hp hu, .none_tuple hp hu, .tuple_none hp hu, .none_tuple hp hu, .tuple_none hp hu⟩
  | bl b => cases r; exact ⟨.bool_tuple b hp hu, .tuple_bool b hp hu, .bool_tuple b hp hu, .tuple_bool b hp hu, .bool_tuple b hp hu, .tuple_bool b hp hu⟩
  | int b => obtain ⟨t, rfl⟩ := r; exact ⟨.int_tuple b t hp hu, .tuple_int b t hp hu, .int_tuple b t hp hu, .tuple_int b t hp hu, .int_tuple b t hp hu, .tuple_int b t hp hu⟩
  | str b => obtain ⟨t, rfl⟩ := r; exact ⟨.str_tuple b t hp hu, .tuple_str b t hp hu, .str_tuple b t hp hu, .tuple_str b t hp hu, .str_tuple b t hp hu, .tuple_str b t hp hu⟩
  | _ => simp [yff] at fa
theorem zjq {A : Around} {a : V} {u : Value} {p : Addr} {its : Array Value} (fa : yff a = true) (r : yhr a u) (hp : s.heap.IsList p its) (hu : A.units < cLine) : SeqAt.RcAt A s u (.ref p) false /\ SeqAt.RcAt A s (.ref p) u false /\ SeqAt.RcNeAt A s u (.ref p) true /\ SeqAt.RcNeAt A s (.ref p) u true := by
  cases a with
  | non => cases r; exact ⟨.none_list hp hu, .list_none hp hu, .none_list hp hu, .list_none hp hu⟩
  | bl b => cases r; exact ⟨.bool_list b hp hu, .list_bool b hp hu, .bool_list b hp hu, .list_bool b hp hu⟩
  | int b => obtain ⟨t, rfl⟩ := r; exact ⟨.int_list b t hp hu, .list_int b t hp hu, .int_list b t hp hu, .list_int b t hp hu⟩
  | str b => obtain ⟨t, rfl⟩ := r; exact ⟨.str_list b t hp hu, .list_str b t hp hu, .str_list b t hp hu, .list_str b t hp hu⟩
  | _ => simp [yff] at fa
theorem zf2 {A : Around} {a : V} {u : Value} {p : Addr} {its : Array Value} (fa : yff a = true) (r : yhr a u) (hp : s.heap.IsList p its) (hu : A.units < cLine) : SeqAt.EqAt A s u (.ref p) false := by
  cases a with
  | non => cases r; exact .none_list hp hu
  | bl b => cases r; exact .bool_list b hp hu
  | int b => obtain ⟨t, rfl⟩ := r; exact .int_list b t hp hu
  | str b => obtain ⟨t, rfl⟩ := r; exact .str_list b t hp hu
  | _ => simp [yff] at fa
theorem zei {A : Around} {a : V} {u : Value} {p : Addr} {its : Array Value} (fa : yff a = true) (r : yhr a u) (hp : s.heap.IsList p its) (hu : A.units < cLine) : SeqAt.EqAt A s (.ref p) u false := by
  cases a with
  | non => cases r; exact .list_none hp hu
  | bl b => cases r; exact .list_bool b hp hu
  | int b => obtain ⟨t, rfl⟩ := r; exact .list_int b t hp hu
  | str b => obtain ⟨t, rfl⟩ := r; exact .list_str b t hp hu
  | _ => simp [yff] at fa
theorem rc_sc {A : Around} {a b : V} {u w : Value} (ra : yhr a u) (rb : yhr b w) (fa : yff a = true) (fb : yff b = true) : SeqAt.RcAt A s u w (eqV a b) /\ SeqAt.RcNeAt A s u w (!eqV a b) := by
  cases a with
  | non =>
    cases ra
    cases b with
    | non => cases rb; exact ⟨.none_none, .none_none⟩
    | bl y => cases rb; exact ⟨.none_bool y, .none_bool y⟩
    | int y => obtain ⟨t, rfl⟩ := rb; exact ⟨.none_int y t, .none_int y t⟩
    | str y => obtain ⟨t, rfl⟩ := rb; exact ⟨.none_str y t, .none_str y t⟩
    | _ => simp [yff] at fb
  | bl x =>
    cases ra
    cases b with
    | non => cases rb; exact ⟨.bool_none x, .bool_none x⟩
    | bl y => cases rb; exact ⟨.bool_bool x y, .bool_bool x y⟩
    | int y => obtain ⟨t, rfl⟩ := rb; exact ⟨.bool_int x y t, .bool_int x y t⟩
    | str y => obtain ⟨t, rfl⟩ := rb; exact ⟨.bool_str x y t, .bool_str x y t⟩
    | _ => simp [yff] at fb
  | int x =>
    obtain ⟨t', rfl⟩ := ra
    cases b with
    | non => cases rb; exact ⟨.int_none x t', .int_none x t'⟩
    | bl y => cases rb; exact ⟨.int_bool x t' y, .int_bool x t' y⟩
    | int y => obtain ⟨t, rfl⟩ := rb; exact ⟨.int_int x t' y t, .int_int x t' y t⟩
    | str y => obtain ⟨t, rfl⟩ := rb; exact ⟨.int_str x t' y t, .int_str x t' y t⟩
    | _ => simp [yff] at fb
  | str x =>
    obtain ⟨t', rfl⟩ := ra
    cases b with
    | non => cases rb; exact ⟨.str_none x t', .str_none x t'⟩
    | bl y => cases rb; exact ⟨.str_bool x t' y, .str_bool x t' y⟩
    | int y => obtain ⟨t, rfl⟩ := rb; exact ⟨.str_int x t' y t, .str_int x t' y t⟩
    | str y => obtain ⟨t, rfl⟩ := rb; exact ⟨.str_str x t' y t, .str_str x t' y t⟩
    | _ => simp [yff] at fb
  | _ => simp [yff] at fa
theorem zru {xs : List V} {us : List Value} {i : Nat} {u : Value} (r : yhw xs us) (h : us[i]? = some u) : ∃ x, xs[i]? = some x /\ yhr x u := by
  have hl := r.length
  have hi := (List.getElem?_eq_some_iff.mp h).1
  obtain ⟨u', h1, h2⟩ := r.get (i := i) (x := xs[i]'(by omega)) (by simp)
  rw [h] at h1; cases h1
  exact ⟨_, by simp, h2⟩
theorem zqt {ds : List D} {vs : List V} {i : Nat} {v : V} (r : yhu T μ H ds vs) (h : vs[i]? = some v) : ∃ d, ds[i]? = some d /\ Rep T μ H d v := by
  have hl := r.length
  have hi := (List.getElem?_eq_some_iff.mp h).1
  obtain ⟨v', h1, h2⟩ := r.get (i := i) (d := ds[i]'(by omega)) (by simp)
  rw [h] at h1; cases h1
  exact ⟨_, by simp, h2⟩
theorem zo9 {A : Around} {f : D -> D -> Option Bool} (hf : ∀ (x y : D) (v w : V) (v' w' : Value) (b : Bool), Rep T μ H x v -> Rep T μ H y w -> yhr v v' -> yhr w w' -> f x y = some b -> SeqAt.EqAt A s v' w' b)
    {xs ys : List D} {vs ws : List V} {us zs : List Value} {b : Bool} (r1 : yhu T μ H xs vs) (r2 : yhu T μ H ys ws) (q1 : yhw vs us) (q2 : yhw ws zs) (h : eqL f xs ys = some b) :
    (∀ j (h1 : j < us.toArray.size) (h2 : j < zs.toArray.size), SeqAt.EqAt A s us.toArray[j] zs.toArray[j] (eAt f xs ys j)) /\ b = ((List.range (min us.toArray.size zs.toArray.size)).all (eAt f xs ys) && us.toArray.size == zs.toArray.size) := by
  obtain ⟨h1, h2⟩ := zn6 f xs ys b h
  have l1 := r1.length
  have l2 := r2.length
  have l3 := q1.length
  have l4 := q2.length
  refine ⟨fun j g1 g2 => ?_, ?_⟩
  · obtain ⟨v, e1, rv⟩ := zru (i := j) (u := us.toArray[j]) q1 (by simp)
    obtain ⟨w, e2, rw'⟩ := zru (i := j) (u := zs.toArray[j]) q2 (by simp)
    obtain ⟨x, e3, p3⟩ := zqt r1 e1
    obtain ⟨y, e4, p4⟩ := zqt r2 e2
    obtain ⟨k, ek⟩ := h1 j x y e3 e4
    have e5 : eAt f xs ys j = k := by simp [eAt, e3, e4, ek]
    rw [e5]
    exact hf x y v w _ _ k p3 p4 rv rw' ek
  · simp only [List.size_toArray]
    rw [h2, l1, l2, l3, l4]
abbrev zyg (A : Around) (s : Shared) (v w : Value) (b : Bool) : Prop := SeqAt.RcAt A s v w b /\ SeqAt.RcNeAt A s v w (!b)
theorem rcK {A : Around} (I : Inv X pins st H s) (r : Rel T μ H σ) (hu : A.units + 1 < cLine) {f : D -> D -> Option Bool}
    (hf : ∀ (x y : D) (v w : V) (v' w' : Value) (b : Bool), Rep T μ H x v -> Rep T μ H y w -> yhr v v' -> yhr w w' -> f x y = some b -> SeqAt.EqAt A.in1 s v' w' b)
    {x y : D} {v w : V} {v' w' : Value} {b : Bool} (hx : Rep T μ H x v) (hy : Rep T μ H y w) (rv : yhr v v') (rw' : yhr w w') (h : eqK f (kd σ x) (kd σ y) = some b) : zyg A s v' w' b := by
  have hu0 : A.units < cLine := by omega
  have kx := yau r hx
  have ky := yau r hy
  generalize kd σ x = k1 at h kx
  generalize kd σ y = k2 at h ky
  cases k1 with
  | o => cases h
  | s a =>
    obtain ⟨rfl, fa⟩ := kx
    cases k2 with
    | o => cases h
    | s c => obtain ⟨rfl, fc⟩ := ky; cases h; exact rc_sc rv rw' fa fc
    | t ys =>
      obtain ⟨q, ws, rfl, h2, r2⟩ := ky
      cases h; cases rw'
      obtain ⟨its, _, hq, _⟩ := L2.Inv.tuple I (SqT.of (K := X.K) h2)
      obtain ⟨_, _, a1, a2, a3, a4⟩ := zht fa rv hq hu0
      exact ⟨a1, a3⟩
    | l ys =>
      obtain ⟨q, ws, rfl, h2, r2⟩ := ky
      cases h; cases rw'
      obtain ⟨its, _, pl, _⟩ := L2.Inv.list I (SqL.of (K := X.K) h2)
      obtain ⟨a1, a2, a3, a4⟩ := zjq fa rv pl.isList hu0
      exact ⟨a1, a3⟩
  | t xs =>
    obtain ⟨p, vs, rfl, h1, r1⟩ := kx
    cases rv
    obtain ⟨its, q1, hp, _⟩ := L2.Inv.tuple I (SqT.of (K := X.K) h1)
    cases k2 with
    | o => cases h
    | s c =>
      obtain ⟨rfl, fc⟩ := ky; cases h
      obtain ⟨_, _, a1, a2, a3, a4⟩ := zht fc rw' hp hu0
      exact ⟨a2, a4⟩
    | t ys =>
      obtain ⟨q, ws, rfl, h2, r2⟩ := ky
      cases rw'
      obtain ⟨its2, q2, hq, _⟩ := L2.Inv.tuple I (SqT.of (K := X.K) h2)
      obtain ⟨g1, g2⟩ := zo9 (A := A.in1) hf r1 r2 q1 q2 h
      rw [g2]
      exact ⟨.tuples hp hq (by omega) g1, .tuples hp hq (by omega) g1⟩
    | l ys =>
      obtain ⟨q, ws, rfl, h2, r2⟩ := ky
      cases h; cases rw'
      obtain ⟨its2, _, pl, _⟩ := L2.Inv.list I (SqL.of (K := X.K) h2)
      exact ⟨.tuple_list hp pl.isList hu0, .tuple_list hp pl.isList hu0⟩
  | l xs =>
    obtain ⟨p, vs, rfl, h1, r1⟩ := kx
    cases rv
    obtain ⟨its, q1, pl, _⟩ := L2.Inv.list I (SqL.of (K := X.K) h1)
    cases k2 with
    | o => cases h
    | s c =>
      obtain ⟨rfl, fc⟩ := ky; cases h
      obtain ⟨a1, a2, a3, a4⟩ := zjq fc rw' pl.isList hu0
      exact ⟨a2, a4⟩
    | t ys =>
      obtain ⟨q, ws, rfl, h2, r2⟩ := ky
      cases h; cases rw'
      obtain ⟨its2, _, hq, _⟩ := L2.Inv.tuple I (SqT.of (K := X.K) h2)
      exact ⟨.list_tuple pl.isList hq hu0, .list_tuple pl.isList hq hu0⟩
    | l ys =>
      obtain ⟨q, ws, rfl, h2, r2⟩ := ky
      cases rw'
      obtain ⟨its2, q2, pl2, _⟩ := L2.Inv.list I (SqL.of (K := X.K) h2)
      obtain ⟨g1, g2⟩ := zo9 (A := A.in1) hf r1 r2 q1 q2 h
      by_cases hz : its.toArray.size = its2.toArray.size
      · have e : b = (List.range its.toArray.size).all (eAt f xs ys) := by rw [g2, <- hz]; simp
        rw [e]
        exact ⟨.lists pl.isList pl2.isList hz (by omega) g1, .lists pl.isList pl2.isList hz (by omega) g1⟩
      · have e : b = false := by rw [g2, beq_eq_false_iff_ne.mpr hz, Bool.and_false]
        rw [e]
        exact ⟨.lists_lengths pl.isList pl2.isList (by simpa using hz) (by omega), .lists_lengths pl.isList pl2.isList (by simpa using hz) (by omega)⟩
theorem zzg {A : Around} (I : Inv X pins st H s) (r : Rel T μ H σ) (hu : A.units + 1 < cLine) {f : D -> D -> Option Bool}
    (hf : ∀ (x y : D) (v w : V) (v' w' : Value) (b : Bool), Rep T μ H x v -> Rep T μ H y w -> yhr v v' -> yhr w w' -> f x y = some b -> SeqAt.EqAt A.in1 s v' w' b)
    (hs : ∀ (x y : D) (v : V) (b : Bool), Rep T μ H x v -> Rep T μ H y v -> f x y = some b -> b = true)
    {x y : D} {v w : V} {v' w' : Value} {b : Bool} (hx : Rep T μ H x v) (hy : Rep T μ H y w) (rv : yhr v v') (rw' : yhr w w') (h : eqK f (kd σ x) (kd σ y) = some b) : SeqAt.EqAt A s v' w' b := by
  have hu0 : A.units < cLine := by omega
  have rc := (rcK I r hu hf hx hy rv rw' h).1
  by_cases hvw : v = w
  · subst hvw
    have hb := zn3 r hs hx hy h
    have kx := yau r hx
    have ky := yau r hy
    generalize kd σ x = k1 at h kx
    generalize kd σ y = k2 at h ky
    cases k1 with
    | o => cases h
    | s a =>
      obtain ⟨rfl, fa⟩ := kx
      cases k2 with
      | o => cases h
      | s c => obtain ⟨rfl, fc⟩ := ky; cases h; exact zze rv rw' fa fc
      | t ys => obtain ⟨q, ws, e, _⟩ := ky; rw [e] at fa; simp [yff] at fa
      | l ys => obtain ⟨q, ws, e, _⟩ := ky; rw [e] at fa; simp [yff] at fa
    | t xs =>
      obtain ⟨p, vs, rfl, _⟩ := kx
      cases rv; cases rw'
      rw [hb]; exact SeqAt.EqAt.same _
    | l xs =>
      obtain ⟨p, vs, rfl, _⟩ := kx
      cases rv; cases rw'
      rw [hb]; exact SeqAt.EqAt.same _
  · have kx := yau r hx
    have ky := yau r hy
    generalize kd σ x = k1 at h kx
    generalize kd σ y = k2 at h ky
    cases k1 with
    | o => cases h
    | s a =>
      obtain ⟨rfl, fa⟩ := kx
      cases k2 with
      | o => cases h
      | s c => obtain ⟨rfl, fc⟩ := ky; cases h; exact zze rv rw' fa fc
      | t ys =>
        obtain ⟨q, ws, rfl, h2, r2⟩ := ky
        cases h; cases rw'
        obtain ⟨its, _, hq, _⟩ := L2.Inv.tuple I (SqT.of (K := X.K) h2)
        exact (zht fa rv hq hu0).1
      | l ys =>
        obtain ⟨q, ws, rfl, h2, r2⟩ := ky
        cases h; cases rw'
        obtain ⟨its, _, pl, _⟩ := L2.Inv.list I (SqL.of (K := X.K) h2)
        exact zf2 fa rv pl.isList hu0
    | t xs =>
      obtain ⟨p, vs, rfl, h1, r1⟩ := kx
      cases rv
      cases k2 with
      | o => cases h
      | s c =>
        obtain ⟨rfl, fc⟩ := ky; cases h
        obtain ⟨its, _, hp, _⟩ := L2.Inv.tuple I (SqT.of (K := X.K) h1)
        exact (zht fc rw' hp hu0).2.1
      | t ys => obtain ⟨q, ws, rfl, _⟩ := ky; cases rw'; exact .of_refs (fun e => hvw (by rw [e])) rc
      | l ys => obtain ⟨q, ws, rfl, _⟩ := ky; cases rw'; exact .of_refs (fun e => hvw (by rw [e])) rc
    | l xs =>
      obtain ⟨p, vs, rfl, h1, r1⟩ := kx
      cases rv
      cases k2 with
      | o => cases h
      | s c =>
        obtain ⟨rfl, fc⟩ := ky; cases h
        obtain ⟨its, _, pl, _⟩ := L2.Inv.list I (SqL.of (K := X.K) h1)
        exact zei fc rw' pl.isList hu0
      | t ys => obtain ⟨q, ws, rfl, _⟩ := ky; cases rw'; exact .of_refs (fun e => hvw (by rw [e])) rc
      | l ys => obtain ⟨q, ws, rfl, _⟩ := ky; cases rw'; exact .of_refs (fun e => hvw (by rw [e])) rc
theorem zzf (I : Inv X pins st H s) (r : Rel T μ H σ) : ∀ (n : Nat) (A : Around) (x y : D) (v w : V) (v' w' : Value) (b : Bool), A.units + n + 1 < cLine -> Rep T μ H x v -> Rep T μ H y w -> yhr v v' -> yhr w w' -> eqD σ n x y = some b -> SeqAt.EqAt A s v' w' b
  | 0, A, x, y, v, w, v', w', b, hu, hx, hy, rv, rw', h => zzg I r (by omega) (fun _ _ _ _ _ _ _ _ _ _ _ z => by cases z) (fun _ _ _ _ _ _ z => by cases z) hx hy rv rw' h
  | n + 1, A, x, y, v, w, v', w', b, hu, hx, hy, rv, rw', h => zzg I r (by omega) (fun x y v w v' w' b a1 a2 a3 a4 a5 => zzf I r n A.in1 x y v w v' w' b (by show A.units + 1 + n + 1 < cLine; omega) a1 a2 a3 a4 a5) (fun x y v b a1 a2 a3 => zn2 r n x y v b a1 a2 a3) hx hy rv rw' h
theorem rcD {A : Around} (I : Inv X pins st H s) (r : Rel T μ H σ) (n : Nat) (hu : A.units + n + 1 < cLine) {x y : D} {v w : V} {v' w' : Value} {b : Bool} (hx : Rep T μ H x v) (hy : Rep T μ H y w) (rv : yhr v v') (rw' : yhr w w') (h : eqD σ n x y = some b) : zyg A s v' w' b := by
  cases n with
  | zero => exact rcK I r (by omega) (fun _ _ _ _ _ _ _ _ _ _ _ z => by cases z) hx hy rv rw' h
  | succ n => exact rcK I r (by omega) (fun x y v w v' w' b a1 a2 a3 a4 a5 => zzf I r n A.in1 x y v w v' w' b (by show A.units + 1 + n + 1 < cLine; omega) a1 a2 a3 a4 a5) hx hy rv rw' h
end
end L4
namespace L4
open PySem PySem.Spec PyProof.Rows L2
section
variable {T : Tb} {X : Cx} {pins : List (Addr × Obj)} {st : St} {μ : List Addr} {H : Hp} {s : Shared} {σ : Sto}
def oEq (x y : D) : M D := fun σ => match eqD σ 8 x y with
  | some b => .ok (.bl b) σ
  | none => .bad
def oNe (x y : D) : M D := fun σ => match eqD σ 8 x y with
  | some b => .ok (.bl (!b)) σ
  | none => .bad
theorem yb8 (hu : X.A.units + 9 < cLine) : OpR X (compareOp .Eq) (rD T oEq) := by
  intro pins s st H v u v' u' Q I rv ru h
  obtain ⟨E, μ, σ, x, y, r, hx, hy, hp⟩ := h
  unfold oEq at hp
  cases e : eqD σ 8 x y with
  | none => rw [e] at hp; exact hp.elim
  | some b =>
    rw [e] at hp
    have := (rcD I r 8 (by omega) hx hy rv ru e).1 X.prog X.w X.xe (EP X pins st Q) ⟨.bl b, H, I, rfl, yhp.here hp r (by rw [Rep])⟩
    exact this
theorem ycc (hu : X.A.units + 9 < cLine) : OpR X (compareOp .NotEq) (rD T oNe) := by
  intro pins s st H v u v' u' Q I rv ru h
  obtain ⟨E, μ, σ, x, y, r, hx, hy, hp⟩ := h
  unfold oNe at hp
  cases e : eqD σ 8 x y with
  | none => rw [e] at hp; exact hp.elim
  | some b =>
    rw [e] at hp
    have := (rcD I r 8 (by omega) hx hy rv ru e).2 X.prog X.w X.xe (EP X pins st Q) ⟨.bl (!b), H, I, rfl, yhp.here hp r (by rw [Rep])⟩
    exact this
def yiz (x y : D) : M D := fun σ => match y with
  | .non => (match x with
    | .non => .ok (.bl true) σ
    | _ => .ok (.bl false) σ)
  | _ => .bad
def ygf (x y : D) : M D := fun σ => match y with
  | .non => (match x with
    | .non => .ok (.bl false) σ
    | _ => .ok (.bl true) σ)
  | _ => .bad
theorem zvk {x : D} {v : V} (h : Rep T μ H x v) : decide (v = .non) = (match x with | .non => true | _ => false) := by
  cases x with
  | non => rw [Rep] at h; subst h; rfl
  | tup ds => rw [Rep] at h; obtain ⟨p, _, rfl, _⟩ := h; simp
  | scr ds => rw [Rep] at h; obtain ⟨p, rfl, _⟩ := h; simp
  | ref ds => rw [Rep] at h; obtain ⟨p, rfl, _⟩ := h; simp
  | lst ds => rw [Rep] at h; obtain ⟨p, _, rfl, _⟩ := h; simp
  | dic ks ds => rw [Rep] at h; obtain ⟨p, _, rfl, _⟩ := h; simp
  | obj c ks ds => rw [Rep] at h; obtain ⟨p, _, _, rfl, _⟩ := h; simp
  | exn c => rw [Rep] at h; obtain ⟨p, rfl, _⟩ := h; simp
  | _ => rw [Rep] at h; subst h; simp
theorem zxr : yeg T (fun x y H Q => y = .non /\ Q (.bl (decide (x = .non))) H) yiz := by
  intro E μ H σ x y v u Q r p q h
  cases y with
  | non =>
    refine ⟨by rw [Rep] at q; exact q, ?_⟩
    rw [zvk p]
    cases x <;> exact yhp.here h r (by rw [Rep])
  | _ => exact h.elim
theorem zrf : yeg T (fun x y H Q => y = .non /\ Q (.bl (!decide (x = .non))) H) ygf := by
  intro E μ H σ x y v u Q r p q h
  cases y with
  | non =>
    refine ⟨by rw [Rep] at q; exact q, ?_⟩
    rw [zvk p]
    cases x <;> exact yhp.here h r (by rw [Rep] <;> rfl)
  | _ => exact h.elim
theorem zsa {ds : List D} {vs : List V} {k : Int} {d : D} (r : yhu T μ H ds vs) (h : atI ds k = some d) : ∃ v, atI vs k = some v /\ Rep T μ H d v := by
  unfold atI at h ⊢
  rw [<- r.length]
  cases e : ixN ds.length k with
  | none => rw [e] at h; cases h
  | some j => rw [e] at h; exact r.get h
theorem zmh : ∀ (ns : List Int), yhu T μ H (ns.map D.int) (ns.map V.int)
  | [] => yhu.nil
  | n :: ns => yhu.cons (by rw [Rep]) (zmh ns)
def yg0 (σ : Sto) : D -> Option (List D)
  | .tup xs => some xs
  | .scr ns => some (ns.map D.int)
  | .ref n => yfy σ n
  | .lst xs => some xs
  | _ => none
def oIx (x i : D) : M D := fun σ => match i with
  | .int k => (match yg0 σ x with
    | some xs => (match atI xs k with
      | some d => .ok d σ
      | none => .bad)
    | none => .bad)
  | _ => .bad
theorem zxb (r : Rel T μ H σ) {x : D} {v : V} {xs : List D} (h : Rep T μ H x v) (e : yg0 σ x = some xs) : ∃ p vs, v = .ref p /\ yhu T μ H xs vs /\ (SqL T.K H p vs \/ SqT T.K H p vs) := by
  cases x with
  | tup ds => cases e; rw [Rep] at h; obtain ⟨p, vs, rfl, h1, h2⟩ := h; exact ⟨p, vs, rfl, h2, .inr (SqT.of h1)⟩
  | scr ns => cases e; rw [Rep] at h; obtain ⟨p, rfl, h1⟩ := h; exact ⟨p, _, rfl, zmh ns, .inl h1.seq⟩
  | ref n => obtain ⟨a, vs, rfl, _, h1, h2⟩ := r.lst h e; exact ⟨a, vs, rfl, h2, .inl (SqL.of h1)⟩
  | lst ds => cases e; rw [Rep] at h; obtain ⟨p, vs, rfl, _, h1, h2⟩ := h; exact ⟨p, vs, rfl, h2, .inl (SqL.of h1)⟩
  | _ => cases e
theorem ydq (hK : T.K = X.K) : yeg T (fun x y H Q => rIxL X.K x y H Q \/ rIxT X.K x y H Q) oIx := by
  intro E μ H σ x y v u Q r p q h
  cases y with
  | int k =>
    unfold oIx at h
    cases e : yg0 σ x with
    | none => simp only [e] at h; exact h.elim
    | some xs =>
      simp only [e] at h
      cases e2 : atI xs k with
      | none => rw [e2] at h; exact h.elim
      | some d =>
        rw [e2] at h
        obtain ⟨a, vs, rfl, h1, h2⟩ := zxb r p e
        obtain ⟨w, h3, h4⟩ := zsa h1 e2
        rw [hK] at h2
        rcases h2 with h2 | h2
        · exact .inl ⟨a, vs, k, w, rfl, yap q, h2, h3, yhp.here h r h4⟩
        · exact .inr ⟨a, vs, k, w, rfl, yap q, h2, h3, yhp.here h r h4⟩
  | _ => exact h.elim
theorem yil : IxR X (fun x y H Q => rIxL X.K x y H Q \/ rIxT X.K x y H Q) := zuq.or yat
def isF (d : D) : Bool := (sc d).isSome
def eqF (x y : D) : Bool := match sc x, sc y with
  | some a, some b => eqV a b
  | _, _ => false
def oIn (neg : Bool) (x y : D) : M D := fun σ => match yg0 σ y with
  | some xs => if (isF x && xs.all isF) = true then .ok (.bl (if neg then !(xs.any fun z => eqF z x) else xs.any fun z => eqF z x)) σ else .bad
  | none => .bad
theorem zon : ∀ {ds : List D} {vs : List V}, yhu T μ H ds vs -> ds.all isF = true -> vs.all yff = true
  | [], vs, h, _ => by rw [yhu] at h; subst h; rfl
  | d :: ds, vs, h, e => by
    rw [yhu] at h
    obtain ⟨v, r, rfl, h1, h2⟩ := h
    rw [List.all_cons, Bool.and_eq_true] at e ⊢
    obtain ⟨a, ea⟩ := Option.isSome_iff_exists.mp e.1
    exact ⟨by rw [ydg h1 ea]; exact zw8 ea, zon h2 e.2⟩
theorem zr3 {x : D} {a : V} (ex : sc x = some a) : ∀ {ds : List D} {vs : List V}, yhu T μ H ds vs -> ds.all isF = true -> (ds.any fun z => eqF z x) = vs.any fun y => eqV y a
  | [], vs, h, _ => by rw [yhu] at h; subst h; rfl
  | d :: ds, vs, h, e => by
    rw [yhu] at h
    obtain ⟨v, r, rfl, h1, h2⟩ := h
    rw [List.all_cons, Bool.and_eq_true] at e
    obtain ⟨c, ec⟩ := Option.isSome_iff_exists.mp e.1
    rw [List.any_cons, List.any_cons, zr3 ex h2 e.2]
    have : eqF d x = eqV v a := by unfold eqF; rw [ec, ex, ydg h1 ec]
    rw [this]
theorem ydp (hK : T.K = X.K) (neg : Bool) : yeg T (rIn X.K neg) (oIn neg) := by
  intro E μ H σ x y v u Q r p q h
  unfold oIn at h
  cases e : yg0 σ y with
  | none => rw [e] at h; exact h.elim
  | some xs =>
    rw [e] at h
    by_cases hc : (isF x && xs.all isF) = true
    · simp only [hc, if_true] at h
      rw [Bool.and_eq_true] at hc
      obtain ⟨a, ea⟩ := Option.isSome_iff_exists.mp hc.1
      obtain ⟨b, vs, rfl, h1, h2⟩ := zxb r q e
      rw [hK] at h2
      refine ⟨b, vs, rfl, h2, by rw [ydg p ea]; exact zw8 ea, zon h1 hc.2, ?_⟩
      have e3 : inV v vs = xs.any fun z => eqF z x := by unfold inV; rw [zr3 ea h1 hc.2, ydg p ea]
      rw [e3]
      exact yhp.here h r (by rw [Rep])
    · simp only [hc] at h; exact h.elim
def yi1 (xs : List D) : M D := fun σ => match xs with
  | [x] => (match yg0 σ x with
    | some ys => .ok (.int ys.length) σ
    | none => .bad)
  | _ => .bad
theorem zxs (hK : T.K = X.K) : zr0 T (fun xs H Q => ∃ p ys, xs = [.ref p] /\ (SqL X.K H p ys \/ SqT X.K H p ys) /\ Q (.int ys.length) H) yi1 := by
  intro E μ H σ xs vs Q r p h
  match xs with
  | [] => exact h.elim
  | [x] =>
    rw [yhu] at p
    obtain ⟨v, w, rfl, p1, p2⟩ := p
    rw [yhu] at p2; subst p2
    unfold yi1 at h
    cases e : yg0 σ x with
    | none => simp only [e] at h; exact h.elim
    | some ys =>
      simp only [e] at h
      obtain ⟨b, vs, rfl, h1, h2⟩ := zxb r p1 e
      rw [hK] at h2
      exact ⟨b, vs, rfl, h2, by rw [<- h1.length]; exact yhp.here h r (by rw [Rep])⟩
  | _ :: _ :: _ => exact h.elim
def ygc (xs : List D) : M D := fun σ => match xs with
  | [x] => (match yg0 σ x with
    | some ys => yf2 ys σ
    | none => .bad)
  | _ => .bad
theorem zrd (hK : T.K = X.K) : zr0 T (fun xs H Q => ∃ p ys, xs = [.ref p] /\ (SqL X.K H p ys \/ SqT X.K H p ys) /\ ∀ l, H l = none -> Q (.ref l) (upd H l (.lst ys))) ygc := by
  intro E μ H σ xs vs Q r p h
  match xs with
  | [] => exact h.elim
  | [x] =>
    rw [yhu] at p
    obtain ⟨v, w, rfl, p1, p2⟩ := p
    rw [yhu] at p2; subst p2
    unfold ygc at h
    cases e : yg0 σ x with
    | none => simp only [e] at h; exact h.elim
    | some ys =>
      simp only [e] at h
      obtain ⟨b, vs, rfl, h1, h2⟩ := zxb r p1 e
      rw [hK] at h2
      exact ⟨b, vs, rfl, h2, fun l hl => zvi h r h1 hl⟩
  | _ :: _ :: _ => exact h.elim
def ybw (xs : List D) : M D := fun σ => match xs with
  | [x] => (match yg0 σ x with
    | some ys => .ok (.tup ys) σ
    | none => .bad)
  | _ => .bad
end
def ye2 (o : List D -> M D) (fs : Ev -> M (List D)) : Ev -> M D := fun ρ => bnd (fs ρ) o
section
variable {T : Tb} {X : Cx} {x : Str} {p pos : Pos} {e : Expr} {es : List Expr} {fs : Ev -> M (List D)} {id ty : String} {r : List V -> Hp -> VK -> Prop} {o : List D -> M D}
theorem yet (hs : zr0 T r o) {st : St} {H : Hp} {Q : VK} (h : tF T X (ye2 o fs) st H Q) : tCB r (tL T X fs) st H Q := by
  obtain ⟨μ, ρ, σ, he, hr, hp⟩ := h
  exact ⟨μ, ρ, σ, he, hr, hp.bind fun ds σ1 μ1 vs H1 _ e1 r1 p1 q1 => hs _ μ1 H1 σ1 ds vs Q r1 p1 q1⟩
theorem zn9 (hc : yd8 X (.builtin id) r) (hs : zr0 T r o) (hg : Gl X x) (hm : X.mg x = none) (hv : bootBuiltins x = some (.builtin id)) (ha : FA T X (e :: es) fs) (hn : x ≠ "__name__" := by decide) (hdb : (x == ("__debug__" : Str)) = false := by decide)
    (he : starEach (e :: es) X.env = (false, eval e X.env) :: starEach es X.env := by rfl) (hpl : (backTo pos (starEach es X.env)).any (·.1) = false := by rfl) : FE T X (.Call (.Name x p) (e :: es) [] pos) (ye2 o fs) :=
  fun pins s st H Q I h => zqd hc hg hm hv ha hn hdb he hpl pins s st H Q I (yet hs h)
theorem zkx (hc : yd8 X (.type ty) r) (hs : zr0 T r o) (hg : Gl X x) (hm : X.mg x = none) (hv : bootBuiltins x = some (.type ty)) (ha : FA T X (e :: es) fs) (hn : x ≠ "__name__" := by decide) (hdb : (x == ("__debug__" : Str)) = false := by decide)
    (he : starEach (e :: es) X.env = (false, eval e X.env) :: starEach es X.env := by rfl) (hpl : (backTo pos (starEach es X.env)).any (·.1) = false := by rfl) : FE T X (.Call (.Name x p) (e :: es) [] pos) (ye2 o fs) :=
  fun pins s st H Q I h => zma hc hg hm hv ha hn hdb he hpl pins s st H Q I (yet hs h)
end
def yio (σ : Sto) : D -> Option (List D)
  | .ref n => yfy σ n
  | .lst xs => some xs
  | _ => none
theorem Rel.ls {T : Tb} {μ : List Addr} {H : Hp} {σ : Sto} (r : Rel T μ H σ) {x : D} {v : V} {xs : List D} (h : Rep T μ H x v) (e : yio σ x = some xs) : ∃ a vs, v = .ref a /\ H a = some (.lst vs) /\ yhu T μ H xs vs := by
  cases x with
  | ref n => obtain ⟨a, vs, h1, _, h2, h3⟩ := r.lst h e; exact ⟨a, vs, h1, h2, h3⟩
  | lst ys => cases e; rw [Rep] at h; obtain ⟨a, vs, h1, _, h2, h3⟩ := h; exact ⟨a, vs, h1, h2, h3⟩
  | _ => cases e
def yf1 (o : D -> List D -> M D) (m : M (List D)) (x : D) : M D := fun σ => match yio σ x with
  | some _ => bnd m (o x) σ
  | none => .bad
def ye5 (o : D -> List D -> M D) (f : Ev -> M D) (fs : Ev -> M (List D)) : Ev -> M D := fun ρ => bnd (f ρ) (yf1 o (fs ρ))
def yef (T : Tb) (r : V -> List V -> Hp -> VK -> Prop) (o : D -> List D -> M D) : Prop := ∀ (E : XK) μ H σ x xs v vs Q, Rel T μ H σ -> Rep T μ H x v -> yhu T μ H xs vs -> yhp T E (Rep T) μ H (o x xs σ) Q -> r v vs H Q
def zvn (x : D) (xs : List D) : M D := fun σ => match x, xs with
  | .ref n, [y] => (match yfy σ n with
    | some ys => if ys.length < cap then .ok .non (σ.set n (.lst (ys ++ [y]))) else .bad
    | none => .bad)
  | _, _ => .bad
section
variable {T : Tb} {X : Cx} {o e : Expr} {es : List Expr} {f : Ev -> M D} {fs : Ev -> M (List D)} {name : Str} {apos cpos : Pos} {id : String} {r : V -> List V -> Hp -> VK -> Prop} {g : D -> List D -> M D}
theorem ztl (pa : PlainAttrs "list") (slot : Slot "list" name id) (hty : typeOf (.builtin id) = pure (.type "method_descriptor")) (hm : MtR X id r) (hs : yef T r g) (ho : FE T X o f) (ha : FA T X (e :: es) fs)
    (hbase : attributeBase o name X.env (eval o X.env) = eval o X.env := by rfl)
    (hfew : ((backTo cpos (starEach (e :: es) X.env)).all (fun x => !x.1) && (backToKw cpos (keywordEach [] X.env)).all (fun x => x.1.isSome)
      && decide ((e :: es).length + ([] : List Keyword).length + (if ([] : List Keyword).isEmpty then 0 else 1) < 30)) = true := by rfl)
    (hline : (apos.endLine == cpos.line) = true := by rfl) (hst : starEach (e :: es) X.env = (false, eval e X.env) :: starEach es X.env := by rfl) (hplain : (backTo cpos (starEach es X.env)).any (·.1) = false := by rfl) :
    FE T X (.Call (.Attribute o name apos) (e :: es) [] cpos) (ye5 g f fs) := by
  intro pins s st H Q I h
  refine ygm pa slot hty hm ho ha hbase hfew hline hst hplain pins s st H Q I ?_
  obtain ⟨μ, ρ, σ, he, hr, hp⟩ := h
  refine ⟨μ, ρ, σ, he, hr, hp.bind fun x σ1 μ1 v H1 _ e1 r1 p1 q1 => ?_⟩
  unfold yf1 at q1
  cases el : yio σ1 x with
  | none => rw [el] at q1; exact q1.elim
  | some xs =>
    rw [el] at q1
    obtain ⟨a, vs, rfl, h1, h2⟩ := r1.ls p1 el
    refine ⟨.inl ⟨rfl, vs, SqL.of h1⟩, μ1, ρ, σ1, he.mono e1, r1, q1.bind fun ds σ2 μ2 ws H2 _ e2 r2 p2 q2 => ?_⟩
    exact hs _ μ2 H2 σ2 x ds (.ref a) ws Q r2 (Rep.mono e2 _ _ p1) p2 q2
theorem zjw : yef T zwt zvn := by
  intro E μ H σ x xs v vs Q r p q h
  cases x with
  | ref n =>
    match xs with
    | [] => exact h.elim
    | [y] =>
      rw [yhu] at q
      obtain ⟨w, z, rfl, q1, q2⟩ := q
      rw [yhu] at q2; subst q2
      unfold zvn at h
      cases el : yfy σ n with
      | none => simp only [el] at h; exact h.elim
      | some ys =>
        simp only [el] at h
        by_cases hc : ys.length < cap
        · rw [if_pos hc] at h
          obtain ⟨a, vs, rfl, hn, h1, h2⟩ := r.lst p el
          have wr := r.write (o := .lst (vs ++ [w])) (ob := .lst (ys ++ [y])) hn ⟨_, upd_same, by
            have ex : Ext μ H μ (upd H a (.lst (vs ++ [w]))) := zkv (List.mem_of_getElem? hn) h1 (fun _ z => by cases z) (fun _ _ z => by cases z)
            exact yhu.append (yhu.mono ex _ _ h2) (yhu.cons (Rep.mono ex _ _ q1) yhu.nil)⟩
          exact ⟨a, vs, w, rfl, rfl, h1, by rw [<- h2.length]; exact zyv hc, h _ _ _ wr.1 wr.2 (by rw [Rep])⟩
        · rw [if_neg hc] at h; exact h.elim
    | _ :: _ :: _ => exact h.elim
  | _ => exact h.elim
end
end L4
namespace L4
open PySem PySem.Spec PyProof.Rows L2
inductive BT where
  | int | bool | str | tuple | list | dict
def BT.nm : BT -> String
  | .int => "int" | .bool => "bool" | .str => "str" | .tuple => "tuple" | .list => "list" | .dict => "dict"
def isBT (σ : Sto) (c : BT) : D -> Option Bool
  | .non => some false
  | .bl _ => some (match c with | .int => true | .bool => true | _ => false)
  | .int _ => some (match c with | .int => true | _ => false)
  | .str _ => some (match c with | .str => true | _ => false)
  | .tup _ => some (match c with | .tuple => true | _ => false)
  | .scr _ => none
  | .lst _ => some (match c with | .list => true | _ => false)
  | .dic _ _ => some (match c with | .dict => true | _ => false)
  | .obj _ _ _ => none
  | .exn _ => none
  | .ref n => match σ[n]? with
    | some (.lst _) => some (match c with | .list => true | _ => false)
    | some (.dic _) => some (match c with | .dict => true | _ => false)
    | _ => none
def yiy (c : BT) (x : D) : M D := fun σ => match isBT σ c x with
  | some b => .ok (.bl b) σ
  | none => .bad
section
variable {T : Tb} {X : Cx}
def rIsI (K : PySem.W.Frag) (c : String) : List V -> Hp -> VK -> Prop := fun xs H Q => ∃ x t b, xs = [x, .ty c] /\ TyOf K H x t /\ PySem.W.kitOne K t (.type c) = some b /\ Q (.bl b) H
theorem zni (c : String) : yd8 X (.builtin "isinstance") (rIsI X.K c) := by
  intro pins s st H xs us Q I r h
  obtain ⟨x, t, b, rfl, ty, e, q⟩ := h
  obtain ⟨u, u2, rfl, ru, ru2⟩ := yhh r
  cases ru2
  exact zlc I ru ty e fun tk => ⟨.bl b, H, I.tok _, rfl, q⟩
theorem ty_of {μ : List Addr} {H : Hp} {σ : Sto} {x : D} {v : V} {c : BT} {b : Bool} (r : Rel T μ H σ) (p : Rep T μ H x v) (h : isBT σ c x = some b) : ∃ t, TyOf X.K H v t /\ PySem.W.kitOne X.K t (.type c.nm) = some b := by
  cases x with
  | non => rw [Rep] at p; subst p; refine ⟨_, .non, ?_⟩; cases c <;> cases h <;> rfl
  | bl i => rw [Rep] at p; subst p; refine ⟨_, .bl i, ?_⟩; cases c <;> cases h <;> rfl
  | int i => rw [Rep] at p; subst p; refine ⟨_, .int i, ?_⟩; cases c <;> cases h <;> rfl
  | str i => rw [Rep] at p; subst p; refine ⟨_, .str i, ?_⟩; cases c <;> cases h <;> rfl
  | tup ds => rw [Rep] at p; obtain ⟨q, vs, rfl, h1, _⟩ := p; refine ⟨_, .tup h1, ?_⟩; cases c <;> cases h <;> rfl
  | scr ns => cases h
  | lst ds => rw [Rep] at p; obtain ⟨q, vs, rfl, _, h1, _⟩ := p; refine ⟨_, .lst h1, ?_⟩; cases c <;> cases h <;> rfl
  | dic ks ds => rw [Rep] at p; obtain ⟨q, vs, rfl, _, h1, _⟩ := p; refine ⟨_, .dK h1, ?_⟩; cases c <;> cases h <;> rfl
  | obj c' ks ds => cases h
  | exn c' => cases h
  | ref n =>
    unfold isBT at h; dsimp only at h
    cases e : σ[n]? with
    | none => rw [e] at h; cases h
    | some o =>
      rw [e] at h
      obtain ⟨a, rfl, _, h2⟩ := r.at p e
      cases o with
      | lst xs => obtain ⟨vs, h3, _⟩ := h2; refine ⟨_, .lst h3, ?_⟩; cases c <;> cases h <;> rfl
      | dic xs => obtain ⟨vs, h3, _⟩ := h2; refine ⟨_, .dK h3, ?_⟩; cases c <;> cases h <;> rfl
      | ins c' fs => cases h
theorem zzo (c : BT) {tn : Str} {e : Expr} {f : Ev -> M D} {p p2 pos : Pos} (he : FE T X e f) (hg : Gl X "isinstance") (hm : X.mg "isinstance" = none) (hg2 : Gl X tn) (hm2 : X.mg tn = none) (hv2 : bootBuiltins tn = some (.type c.nm)) (hn2 : tn ≠ "__name__" := by decide) (hd2 : (tn == ("__debug__" : Str)) = false := by decide)
    (hs : starEach [e, .Name tn p2] X.env = (false, eval e X.env) :: starEach [.Name tn p2] X.env := by rfl) (hpl : (backTo pos (starEach [.Name tn p2] X.env)).any (·.1) = false := by rfl) :
    FE T X (.Call (.Name "isinstance" p) [e, .Name tn p2] [] pos) (eUn (yiy c) f) := by
  intro pins s st H Q I h
  refine zqd (zni c.nm) hg hm boot_isinstance (zv7 he (zv7 (zv9 hg2 hm2 hv2 (v := .ty c.nm) rfl hn2 hd2) ych) hs) (by decide) (by decide) hs hpl pins s st H Q I ?_
  obtain ⟨μ, ρ, σ, hE, hr, hp⟩ := h
  refine ⟨μ, ρ, σ, hE, hr, hp.bind fun x σ1 μ1 v H1 _ e1 r1 p1 q1 => ?_⟩
  unfold yiy at q1
  cases eb : isBT σ1 c x with
  | none => rw [eb] at q1; exact q1.elim
  | some b =>
    rw [eb] at q1
    obtain ⟨t, h1, h2⟩ := ty_of (X := X) r1 p1 eb
    exact ⟨v, t, b, rfl, h1, h2, yhp.here q1 r1 (by rw [Rep])⟩
end
end L4
namespace L4
open PySem PySem.Spec PyProof.Rows L2
def yjm : Ev -> M Fl := fun ρ => ret (.nx ρ)
def yjs (h : Ev -> M Fl) : Fl -> M Fl
  | .nx ρ' => h ρ'
  | .rt d => ret (.rt d)
  | .bk ρ' => ret (.bk ρ')
  | .ct ρ' => ret (.ct ρ')
  | .xc ρ' x => ret (.xc ρ' x)
def yjp (g h : Ev -> M Fl) : Ev -> M Fl := fun ρ => bnd (g ρ) (yjs h)
def retK : D -> M Fl := fun d => ret (.rt d)
def yjo (f : Ev -> M D) : Ev -> M Fl := fun ρ => xs ρ (f ρ) retK
def expK (ρ : Ev) : D -> M Fl := fun _ => ret (.nx ρ)
def yjk (f : Ev -> M D) : Ev -> M Fl := fun ρ => xs ρ (f ρ) (expK ρ)
def setK (i : Nat) (ρ : Ev) : D -> M Fl := fun d => ret (.nx (ρ.set i (some d)))
def yjq (i : Nat) (f : Ev -> M D) : Ev -> M Fl := fun ρ => xs ρ (f ρ) (setK i ρ)
def sIf (t : Ev -> M Bool) (a b : Ev -> M Fl) : Ev -> M Fl := fun ρ => xs ρ (t ρ) (ifK (a ρ) (b ρ))
section
variable {T : Tb} {X : Cx} {st' : Stmt} {yjg : List Stmt} {g h : Ev -> M Fl} {e : Expr} {f : Ev -> M D} {pos : Pos}
theorem zt3 : FSs T X [] yjm := by
  intro pins s st H D I hw
  obtain ⟨μ, ρ, σ, hE, hr, hp⟩ := hw
  exact zwm pins s st H D I (yhp.here (g := Gl2.nx st) hp hr hE)
theorem zxa {μ : List Addr} {H : Hp} {σ : Sto} {fl : Fl} {gl : Gl2} {D : Ends} {N : St -> Hp -> Prop} (r : Rel T μ H σ) (q : RFl T μ H fl gl) (k : Fl -> M Fl)
    (hn : ∀ ρ, fl = .nx ρ -> ∀ st, gl = .nx st -> yhl T μ H ρ st -> N st H) (ho : (∀ ρ, fl ≠ .nx ρ) -> yhp T EN (RFl T) μ H (.ok fl σ) (yhm X D)) : yhm X { D with nx := N } gl H := by
  cases fl with
  | nx ρ => cases gl with
    | nx st => exact hn ρ rfl st rfl q
    | _ => exact q.elim
  | rt d => cases gl with
    | rt v => have z := yhp.here (g := Gl2.rt v) (ho fun _ z => by cases z) r q; exact z
    | _ => exact q.elim
  | bk ρ => cases gl with
    | bk v => have z := yhp.here (g := Gl2.bk v) (ho fun _ z => by cases z) r q; exact z
    | _ => exact q.elim
  | ct ρ => cases gl with
    | ct v => have z := yhp.here (g := Gl2.ct v) (ho fun _ z => by cases z) r q; exact z
    | _ => exact q.elim
  | xc ρ x => cases gl with
    | xc v c => have z := yhp.here (g := Gl2.xc v c) (ho fun _ z => by cases z) r q; exact z
    | _ => exact q.elim
theorem zov (h1 : FS T X st' g) (h2 : FSs T X yjg h) : FSs T X (st' :: yjg) (yjp g h) := by
  intro pins s st H D I hw
  refine zqm h1 h2 pins s st H D I ?_
  obtain ⟨μ, ρ, σ, hE, hr, hp⟩ := hw
  refine ⟨μ, ρ, σ, hE, hr, hp.bind fun fl σ1 μ1 gl H1 _ e1 r1 q1 p1 => ?_⟩
  refine zxa (X := X) r1 q1 (fun _ => bad) (fun ρ' ef st1 eg he => ?_) (fun hn => ?_)
  · subst ef
    exact ⟨μ1, ρ', σ1, he, r1, p1⟩
  · cases fl with
    | nx ρ' => exact (hn ρ' rfl).elim
    | _ => exact p1
theorem zt4 (h1 : FS T X st' g) : FSs T X [st'] g := zwn h1
theorem yaa (he : FE T X e f) : FS T X (.Return (some e) pos) (yjo f) := by
  intro pins s st H D I hw
  refine yc0 he pins s st H D I ?_
  obtain ⟨μ, ρ, σ, hE, hr, hp⟩ := hw
  exact ⟨μ, ρ, σ, hE, hr, hp.xs hE fun d σ1 μ1 v H1 _ e1 r1 q1 p1 => yhp.here (g := Gl2.rt v) p1 r1 q1⟩
theorem ztz (he : FE T X e f) (hs : swapsWith e none pos.line X.env = pure false := by rfl) : FS T X (.Expr e pos) (yjk f) := by
  intro pins s st H D I hw
  refine zwl he hs pins s st H D I ?_
  obtain ⟨μ, ρ, σ, hE, hr, hp⟩ := hw
  exact ⟨μ, ρ, σ, hE, hr, hp.xs hE fun d σ1 μ1 v H1 _ e1 r1 q1 p1 => yhp.here (g := Gl2.nx st) p1 r1 (hE.mono e1)⟩
theorem yab {i : Nat} {x : Str} {pos' : Pos} (hN : X.N.Nodup) (hi : X.N[i]? = some x) (hx : Loc X.env.scope x) (he : FE T X e f) (hs : swapsWith e (some (.Name x pos')) pos.line X.env = pure false := by rfl) (hf : X.fn x = true \/ X.env.scope.names.lookup x = some .local := by first | exact .inl rfl | exact .inr rfl | assumption) :
    FS T X (.Assign [.Name x pos'] e pos) (yjq i f) := by
  intro pins s st H D I hw
  refine yc1 hN hi hx he hs hf pins s st H D I ?_
  obtain ⟨μ, ρ, σ, hE, hr, hp⟩ := hw
  exact ⟨μ, ρ, σ, hE, hr, hp.xs hE fun d σ1 μ1 v H1 _ e1 r1 q1 p1 => yhp.here (g := Gl2.nx (st.set i (some v))) p1 r1 ((hE.mono e1).set i q1)⟩
theorem yfi {c : Expr} {a b : List Stmt} {tc : Ev -> M Bool} {ga gb : Ev -> M Fl} (hc : FT T X c tc) (ha : FSs T X a ga) (hb : FSs T X b gb) : FS T X (.If c a b pos) (sIf tc ga gb) := by
  intro pins s st H D I hw
  refine ps_if hc ha hb pins s st H D I ?_
  obtain ⟨μ, ρ, σ, hE, hr, hp⟩ := hw
  refine ⟨μ, ρ, σ, hE, hr, hp.xs hE fun c σ1 μ1 v H1 _ e1 r1 q1 p1 => ?_⟩
  cases q1
  cases c with
  | true => unfold ifK at p1; rw [if_pos rfl] at p1 ⊢; exact ⟨μ1, ρ, σ1, hE.mono e1, r1, p1⟩
  | false => unfold ifK at p1; rw [if_neg Bool.false_ne_true] at p1 ⊢; exact ⟨μ1, ρ, σ1, hE.mono e1, r1, p1⟩
def gD (T : Tb) (tg : D -> Ev -> Option Ev) : TG := fun v st H Q => ∃ μ σ ρ d ρ', yhl T μ H ρ st /\ Rel T μ H σ /\ Rep T μ H d v /\ tg d ρ = some ρ' /\ ∀ st', yhl T μ H ρ' st' -> Q st' H
def gsD (T : Tb) (tg : List D -> Ev -> Option Ev) : TGs := fun vs st H Q => ∃ μ σ ρ ds ρ', yhl T μ H ρ st /\ Rel T μ H σ /\ yhu T μ H ds vs /\ tg ds ρ = some ρ' /\ ∀ st', yhl T μ H ρ' st' -> Q st' H
abbrev FG (T : Tb) (X : Cx) (t : Expr) (tg : D -> Ev -> Option Ev) : Prop := PG X t (gD T tg)
abbrev FGs (T : Tb) (X : Cx) (ts : List Expr) (tg : List D -> Ev -> Option Ev) : Prop := PGs X ts (gsD T tg)
def tgN (i : Nat) : D -> Ev -> Option Ev := fun d ρ => some (ρ.set i (some d))
def yhc : List D -> Ev -> Option Ev
  | [], ρ => some ρ
  | _ :: _, _ => none
def ydx (t : D -> Ev -> Option Ev) (u : List D -> Ev -> Option Ev) : List D -> Ev -> Option Ev
  | [], _ => none
  | d :: ds, ρ => (t d ρ).bind fun ρ' => u ds ρ'
def tgT (n : Nat) (t : List D -> Ev -> Option Ev) : D -> Ev -> Option Ev
  | .tup ds, ρ => if ds.length = n then t ds ρ else none
  | _, _ => none
theorem zto {i : Nat} {x : Str} (hN : X.N.Nodup) (hi : X.N[i]? = some x) (hx : Loc X.env.scope x) (hf : X.fn x = true \/ X.env.scope.names.lookup x = some .local := by first | exact .inl rfl | exact .inr rfl | assumption) : FG T X (.Name x pos) (tgN i) := by
  intro pins s st H v u Q I r h
  obtain ⟨μ, σ, ρ, d, ρ', hE, hr, hd, ht, hq⟩ := h
  cases ht
  exact zwd hN hi hx hf pins s st H v u Q I r (hq _ (hE.set i hd))
theorem ztp : FGs T X [] yhc := by
  intro pins s st H vs us Q I r h
  obtain ⟨μ, σ, ρ, ds, ρ', hE, hr, hd, ht, hq⟩ := h
  cases ds with
  | nil => cases ht; rw [yhu] at hd; subst hd; exact zwe pins s st H [] us Q I r ⟨rfl, hq _ hE⟩
  | cons d ds => cases ht
theorem zoi {es : List Expr} {t : D -> Ev -> Option Ev} {u : List D -> Ev -> Option Ev} (h1 : FG T X e t) (h2 : FGs T X es u)
    (hs : (assignEach (e :: es) X.env).map (·.2) = assign e X.env :: (assignEach es X.env).map (·.2) := by rfl) : FGs T X (e :: es) (ydx t u) := by
  intro pins s st H vs us Q I r h
  obtain ⟨μ, σ, ρ, ds, ρ', hE, hr, hd, ht, hq⟩ := h
  cases ds with
  | nil => cases ht
  | cons d ds =>
    rw [yhu] at hd
    obtain ⟨v, w, rfl, hd1, hd2⟩ := hd
    obtain ⟨ρ1, e1, e2⟩ := Option.bind_eq_some_iff.mp ht
    refine zqi h1 h2 hs pins s st H (v :: w) us Q I r ⟨v, w, rfl, μ, σ, ρ, d, ρ1, hE, hr, hd1, e1, fun st1 hE1 => ?_⟩
    exact ⟨μ, σ, ρ1, ds, ρ', hE1, hr, hd2, e2, hq⟩
theorem zzz {es : List Expr} {k : Nat} {t : List D -> Ev -> Option Ev} {n : Nat} (hc : X.calm = true) (h : FGs T X es t)
    (hn : (assignEach es X.env).length = n := by rfl) (hst : (assignEach es X.env).findIdx? (·.1) = none := by rfl) : FG T X (.Tuple es k pos) (tgT n t) := by
  intro pins s st H v u Q I r hw
  obtain ⟨μ, σ, ρ, d, ρ', hE, hr, hd, ht, hq⟩ := hw
  cases d with
  | tup ds =>
    have hd0 := hd
    rw [Rep] at hd
    obtain ⟨p, vs, rfl, h1, h2⟩ := hd
    unfold tgT at ht; dsimp only at ht
    by_cases hl : ds.length = n
    · rw [if_pos hl] at ht
      exact yct hc h hn hst pins s st H (.ref p) u Q I r ⟨p, vs, rfl, SqT.of h1, by rw [<- h2.length]; exact hl, μ, σ, ρ, ds, ρ', hE, hr, h2, ht, hq⟩
    · rw [if_neg hl] at ht; cases ht
  | _ => cases ht
def yhy (tg : D -> Ev -> Option Ev) (ρ : Ev) (d : D) : M Fl := match tg d ρ with
  | some ρ' => ret (.nx ρ')
  | none => bad
def sAsg (f : Ev -> M D) (tg : D -> Ev -> Option Ev) : Ev -> M Fl := fun ρ => xs ρ (f ρ) (yhy tg ρ)
theorem zz5 {tg : Expr} {t : D -> Ev -> Option Ev} (he : FE T X e f) (hg : FG T X tg t) (hs : swapsWithSole [tg] e pos.line X.env = pure false := by rfl) (hw : swappedStores [tg] e X.env = pure none := by rfl)
    (h1 : (assignEach [tg] X.env).map (·.2) = [assign tg X.env] := by rfl) : FS T X (.Assign [tg] e pos) (sAsg f t) := by
  intro pins s st H D I hq
  refine ycw he hg hs hw h1 pins s st H D I ?_
  obtain ⟨μ, ρ, σ, hE, hr, hp⟩ := hq
  refine ⟨μ, ρ, σ, hE, hr, hp.xs hE fun d σ1 μ1 v H1 _ e1 r1 q1 p1 => ?_⟩
  unfold yhy at p1
  cases ht : t d ρ with
  | none => simp only [ht] at p1; exact p1.elim
  | some ρ' => simp only [ht] at p1; exact ⟨μ1, σ1, ρ, d, ρ', hE.mono e1, r1, q1, ht, fun st1 hE1 => yhp.here (g := Gl2.nx st1) p1 r1 hE1⟩
def ygg (x i d : D) : M Unit := fun σ => match x, i with
  | .ref n, .int k => (match yfy σ n with
    | some xs => (match ixN xs.length k with
      | some j => .ok () (σ.set n (.lst (xs.set j d)))
      | none => .bad)
    | none => .bad)
  | _, _ => .bad
def yg6 (ρ : Ev) (d x i : D) : M Fl := fun σ => match ygg x i d σ with
  | .ok _ σ' => .ok (.nx ρ) σ'
  | _ => .bad
def yg5 (ρ : Ev) (fi : Ev -> M D) (d x : D) : M Fl := xs ρ (fi ρ) (yg6 ρ d x)
def yg4 (ρ : Ev) (fo fi : Ev -> M D) (d : D) : M Fl := xs ρ (fo ρ) (yg5 ρ fi d)
def ygx (f fo fi : Ev -> M D) : Ev -> M Fl := fun ρ => xs ρ (f ρ) (yg4 ρ fo fi)
theorem zt2 {o i : Expr} {fo fi : Ev -> M D} {pos' : Pos} (he : FE T X e f) (ho : FE T X o fo) (hi : FE T X i fi)
    (ha : ∀ v, assign (.Subscript o i pos') X.env v = (do
      let ov <- holding [v] (eval o X.env)
      let iv <- holding [v, ov] (eval i X.env)
      standAt pos'
      holding [v, ov, iv] (setItem ov iv v)
      release [v, ov, iv] []) := by intro _; rfl)
    (hs : swapsWithSole [.Subscript o i pos'] e pos.line X.env = pure false := by rfl) (hw : swappedStores [.Subscript o i pos'] e X.env = pure none := by rfl)
    (h1 : (assignEach [.Subscript o i pos'] X.env).map (·.2) = [assign (.Subscript o i pos') X.env] := by rfl) : FS T X (.Assign [.Subscript o i pos'] e pos) (ygx f fo fi) := by
  intro pins s st H D I hq
  refine ycw he (ycs ho hi zq6 ha) hs hw h1 pins s st H D I ?_
  obtain ⟨μ, ρ, σ, hE, hr, hp⟩ := hq
  refine ⟨μ, ρ, σ, hE, hr, hp.xs hE fun d σ1 μ1 v H1 _ e1 r1 q1 p1 => ?_⟩
  refine ⟨μ1, ρ, σ1, hE.mono e1, r1, p1.xs (hE.mono e1) fun x σ2 μ2 vo H2 _ e2 r2 q2 p2 => ?_⟩
  refine ⟨μ2, ρ, σ2, (hE.mono e1).mono e2, r2, p2.xs ((hE.mono e1).mono e2) fun k σ3 μ3 vi H3 _ e3 r3 q3 p3 => ?_⟩
  have hd := Rep.mono e3 _ _ (Rep.mono e2 _ _ q1)
  have hx := Rep.mono e3 _ _ q2
  unfold yg6 ygg at p3
  cases x with
  | ref n =>
    cases k with
    | int k =>
      dsimp only at p3
      cases el : yfy σ3 n with
      | none => rw [el] at p3; exact p3.elim
      | some xs =>
        rw [el] at p3
        dsimp only at p3
        cases ej : ixN xs.length k with
        | none => rw [ej] at p3; exact p3.elim
        | some j =>
          rw [ej] at p3
          obtain ⟨a, vs, rfl, hn, h1, h2⟩ := r3.lst hx el
          have wr := r3.write (o := .lst (vs.set j v)) (ob := .lst (xs.set j d)) hn ⟨_, upd_same, by
            have ex : Ext μ3 H3 μ3 (upd H3 a (.lst (vs.set j v))) := zkv (List.mem_of_getElem? hn) h1 (fun _ z => by cases z) (fun _ _ z => by cases z)
            exact yhu.set (Rep.mono ex _ _ hd) j (yhu.mono ex _ _ h2)⟩
          exact ⟨a, vs, k, j, rfl, yap q3, h1, by rw [<- h2.length]; exact ej, p3 _ (.nx st) _ wr.1 wr.2 (((hE.mono e1).mono e2).mono e3 |>.mono wr.1)⟩
    | _ => exact p3.elim
  | _ => exact p3.elim
end
end L4
namespace L4
open PySem PySem.Spec PyProof.Rows L2
inductive Src where
  | seq (ds : List D)
  | lref (n : Nat)
def Src.nx : Src -> Nat -> Sto -> Option (Option D)
  | .seq ds, i, _ => some ds[i]?
  | .lref n, i, σ => (yfy σ n).map fun xs => xs[i]?
def yei (T : Tb) (μ0 : List Addr) (H0 : Hp) (src : Src) (J : It) : Prop := ∀ μ H σ i, Ext μ0 H0 μ H -> Rel T μ H σ -> match src.nx i σ with
  | none => True
  | some none => J.stop i H
  | some (some d) => J.go i H /\ ∀ x H', J.yld i H x H' -> H' = H /\ Rep T μ H d x
def tI (T : Tb) (X : Cx) (f : Ev -> M Src) : TI := fun st H R => ∃ μ ρ σ, yhl T μ H ρ st /\ Rel T μ H σ /\ yhp T (XE X st) (yei T) μ H (f ρ σ) R
abbrev FI (T : Tb) (X : Cx) (tg iter : Expr) (f : Ev -> M Src) : Prop := PI X tg iter (tI T X f)
def yc7 (n : Nat) : List D := (List.range n).map fun (i : Nat) => D.int (i : Int)
def ygz (d : D) : M Src := fun σ => match d with
  | .tup ds => .ok (.seq ds) σ
  | .lst ds => .ok (.seq ds) σ
  | .scr ns => .ok (.seq (ns.map D.int)) σ
  | .ref n => (match yfy σ n with
    | some _ => .ok (.lref n) σ
    | none => .bad)
  | _ => .bad
def yjw (f : Ev -> M D) : Ev -> M Src := fun ρ => bnd (f ρ) ygz
noncomputable def zxm (j : Int) : Bool := hide (decide (-(2 ^ 62) <= j) && decide (j < 2 ^ 62))
noncomputable def yjh (d : D) : M Src := fun σ => match d with
  | .int j => if zxm j = true then .ok (.seq (yc7 j.toNat)) σ else .bad
  | _ => .bad
noncomputable def yjv (f : Ev -> M D) : Ev -> M Src := fun ρ => bnd (f ρ) yjh
section
variable {T : Tb} {X : Cx} {tg iter : Expr} {f : Ev -> M D}
def iSeq (K : PySem.W.Frag) (tl : TE) : TI := fun σ H R => tl σ H fun x H1 => ∃ a, x = .ref a /\ (((∃ xs, SqL K H1 a xs) /\ R (Itl K a) H1) \/ ((∃ xs, SqT K H1 a xs) /\ R (Itt K a) H1))
theorem ycu {l : Expr} {tl : TE} (hl : PE X l tl) : PI X tg l (iSeq X.K tl) := by
  intro pins s σ H R I h
  refine thn (hl pins s σ H _ I h) fun v s1 ⟨x, H1, I1, r1, q1⟩ => ?_
  obtain ⟨a, e, q1⟩ := q1
  subst e
  cases r1
  rcases q1 with ⟨⟨xs, hq⟩, q⟩ | ⟨⟨xs, hq⟩, q⟩
  · obtain ⟨its, rv, p, hz⟩ := I1.list hq
    refine wpAny_pyIter_list p.isList ?_
    refine ⟨s1.heap.objs.size, [s1.heap.objs.size], _, _, H1, rfl, I1.kept (t' := s1.toks) fun b o e => Heap.get?_push_of_some _ e, zm6 a _, ⟨_, Heap.get?_push_size _ rfl, rfl, rfl⟩, fun b hb => ?_, q⟩
    have e : b = s1.heap.objs.size := by simpa using hb
    subst e
    exact I1.fpOk (Nat.le_refl _) (I1.hok.fresh (Nat.le_refl _))
  · obtain ⟨its, rv, p, hz⟩ := I1.tuple hq
    refine wpAny_pyIter_tuple (show s1.heap.IsTuple a its.toArray from p) ?_
    refine ⟨s1.heap.objs.size, [s1.heap.objs.size], _, _, H1, rfl, I1.kept (t' := s1.toks) fun b o e => Heap.get?_push_of_some _ e, zj1 a _, ⟨_, Heap.get?_push_size _ rfl, rfl, rfl⟩, fun b hb => ?_, q⟩
    have e : b = s1.heap.objs.size := by simpa using hb
    subst e
    exact I1.fpOk (Nat.le_refl _) (I1.hok.fresh (Nat.le_refl _))
theorem zrg {μ1 : List Addr} {H1 : Hp} {a : Addr} {ds : List D} {K : PySem.W.Frag} (h : ∀ μ2 H2, Ext μ1 H1 μ2 H2 -> ∃ vs, SqL K H2 a vs /\ yhu T μ2 H2 ds vs) : yei T μ1 H1 (.seq ds) (Itl K a) := by
  intro μ2 H2 σ2 i ex r2
  obtain ⟨vs, h3, h4⟩ := h μ2 H2 ex
  show match some ds[i]? with | none => True | some none => _ | some (some d) => _
  cases e : ds[i]? with
  | none => exact ⟨vs, h3, by rw [<- h4.length]; exact List.getElem?_eq_none_iff.mp e⟩
  | some d =>
    obtain ⟨v, hv1, hv2⟩ := h4.get e
    refine ⟨⟨vs, v, h3, hv1⟩, fun x H' y => ?_⟩
    obtain ⟨rfl, y⟩ := y
    have := y vs h3
    rw [hv1] at this; cases this
    exact ⟨rfl, hv2⟩
theorem zx4 {μ1 : List Addr} {H1 : Hp} {a : Addr} {ds : List D} {K : PySem.W.Frag} (h : ∀ μ2 H2, Ext μ1 H1 μ2 H2 -> ∃ vs, SqT K H2 a vs /\ yhu T μ2 H2 ds vs) : yei T μ1 H1 (.seq ds) (Itt K a) := by
  intro μ2 H2 σ2 i ex r2
  obtain ⟨vs, h3, h4⟩ := h μ2 H2 ex
  show match some ds[i]? with | none => True | some none => _ | some (some d) => _
  cases e : ds[i]? with
  | none => exact ⟨vs, h3, by rw [<- h4.length]; exact List.getElem?_eq_none_iff.mp e⟩
  | some d =>
    obtain ⟨v, hv1, hv2⟩ := h4.get e
    refine ⟨⟨vs, v, h3, hv1⟩, fun x H' y => ?_⟩
    obtain ⟨rfl, y⟩ := y
    have := y vs h3
    rw [hv1] at this; cases this
    exact ⟨rfl, hv2⟩
theorem zz0 (hK : T.K = X.K) (h : FE T X iter f) : FI T X tg iter (yjw f) := by
  intro pins s st H R I hw
  refine ycu h pins s st H R I ?_
  obtain ⟨μ, ρ, σ, hE, hr, hp⟩ := hw
  refine ⟨μ, ρ, σ, hE, hr, hp.bind fun d σ1 μ1 v H1 _ e1 r1 q1 p1 => ?_⟩
  cases d with
  | tup ds =>
    rw [Rep] at q1
    obtain ⟨p, vs, rfl, h1, h2⟩ := q1
    exact ⟨p, rfl, .inr ⟨⟨vs, SqT.of h1⟩, yhp.here (R := yei T) p1 r1 (zx4 fun μ2 H2 ex => ⟨vs, SqT.of (ex.tup _ _ h1), yhu.mono ex _ _ h2⟩)⟩⟩
  | lst ds =>
    rw [Rep] at q1
    obtain ⟨p, vs, rfl, hn, h1, h2⟩ := q1
    exact ⟨p, rfl, .inl ⟨⟨vs, SqL.of h1⟩, yhp.here (R := yei T) p1 r1 (zrg fun μ2 H2 ex => ⟨vs, SqL.of (ex.keep _ _ h1 hn).1, yhu.mono ex _ _ h2⟩)⟩⟩
  | scr ns =>
    rw [Rep] at q1
    obtain ⟨p, rfl, h1⟩ := q1
    have hsc : ∀ μ2 H2, Ext μ1 H1 μ2 H2 -> SqL X.K H2 p (ns.map V.int) := fun μ2 H2 ex => by
      have h2 : Rep T μ2 H2 (.scr ns) (.ref p) := Rep.mono ex _ _ (by rw [Rep]; exact ⟨p, rfl, h1⟩)
      rw [Rep] at h2
      obtain ⟨p', e', h3⟩ := h2
      cases e'
      rw [<- hK]; exact h3.seq
    exact ⟨p, rfl, .inl ⟨⟨_, hsc _ _ (Ext.refl _ _)⟩, yhp.here (R := yei T) p1 r1 (zrg fun μ2 H2 ex => ⟨_, hsc μ2 H2 ex, zmh ns⟩)⟩⟩
  | ref n =>
    unfold ygz at p1
    dsimp only at p1
    cases el0 : yfy σ1 n with
    | none => rw [el0] at p1; exact p1.elim
    | some xs =>
      rw [el0] at p1
      obtain ⟨a, vs, rfl, _, h1, h2⟩ := r1.lst q1 el0
      refine ⟨a, rfl, .inl ⟨⟨vs, SqL.of h1⟩, yhp.here (R := yei T) p1 r1 fun μ2 H2 σ2 i ex r2 => ?_⟩⟩
      show match (yfy σ2 n).map (fun xs => xs[i]?) with | none => True | some none => _ | some (some d) => _
      cases el : yfy σ2 n with
      | none => trivial
      | some ys =>
        obtain ⟨a', ws, ea, _, h3, h4⟩ := r2.lst (Rep.mono ex _ _ q1) el
        cases ea
        show match some (ys[i]?) with | none => True | some none => _ | some (some d) => _
        cases e : ys[i]? with
        | none => exact ⟨ws, SqL.of h3, by rw [<- h4.length]; exact List.getElem?_eq_none_iff.mp e⟩
        | some d =>
          obtain ⟨v, hv1, hv2⟩ := h4.get e
          refine ⟨⟨ws, v, SqL.of h3, hv1⟩, fun x H' y => ?_⟩
          obtain ⟨rfl, y⟩ := y
          have := y ws (SqL.of h3)
          rw [hv1] at this; cases this
          exact ⟨rfl, hv2⟩
  | _ => exact p1.elim
theorem zja {n i : Nat} (h : i < n) : (yc7 n)[i]? = some (.int i) := by simp [yc7, h]
theorem zjb (n : Nat) : (yc7 n).length = n := by simp [yc7]
theorem zoj {a : Expr} {p pos : Pos} (hgl : Gl X "range") (hm : X.mg "range" = none) (ha : FE T X a f) (hst : starEach [a] X.env = [(false, eval a X.env)] := by rfl) : FI T X tg (.Call (.Name "range" p) [a] [] pos) (yjv f) := by
  intro pins s st H R I hw
  refine zmb hgl hm (zv7 ha ych hst) hst pins s st H R I ?_
  obtain ⟨μ, ρ, σ, hE, hr, hp⟩ := hw
  refine ⟨μ, ρ, σ, hE, hr, hp.bind fun d σ1 μ1 v H1 _ e1 r1 q1 p1 => ?_⟩
  cases d with
  | int j =>
    rw [Rep] at q1
    subst q1
    unfold yjh at p1
    dsimp only at p1
    by_cases hj : zxm j = true
    · rw [if_pos hj] at p1
      simp only [zxm, zud, Bool.and_eq_true, decide_eq_true_eq] at hj
      refine ⟨j, rfl, hj.1, hj.2, yhp.here (R := yei T) p1 r1 fun μ2 H2 σ2 i ex r2 => ?_⟩
      show match some (yc7 j.toNat)[i]? with | none => True | some none => _ | some (some d) => _
      by_cases hi : i < j.toNat
      · rw [zja hi]
        refine ⟨hi, fun x H' y => ?_⟩
        obtain ⟨rfl, rfl⟩ := y
        exact ⟨rfl, by rw [Rep, Int.zero_add]⟩
      · rw [List.getElem?_eq_none_iff.mpr (by rw [zjb]; omega)]
        exact Nat.not_lt.mp hi
    · rw [if_neg hj] at p1; exact p1.elim
  | _ => exact p1.elim
end
def yfv (k : Ev -> M Fl) : Fl -> M Fl
  | .nx ρ2 => k ρ2
  | .ct ρ2 => k ρ2
  | .bk ρ2 => ret (.nx ρ2)
  | .rt d => ret (.rt d)
  | .xc ρ x => ret (.xc ρ x)
def yin (tg : D -> Ev -> Option Ev) (body : Ev -> M Fl) : List D -> Ev -> M Fl
  | [], ρ => ret (.nx ρ)
  | d :: ds, ρ => match tg d ρ with
    | none => bad
    | some ρ1 => bnd (body ρ1) (yfv (yin tg body ds))
def yfw (tg : D -> Ev -> Option Ev) (body : Ev -> M Fl) (n : Nat) : Nat -> Nat -> Ev -> M Fl
  | 0, _, _ => bad
  | k + 1, i, ρ => fun σ => match yfy σ n with
    | none => .bad
    | some xs => match xs[i]? with
      | none => .ok (.nx ρ) σ
      | some d => match tg d ρ with
        | none => .bad
        | some ρ1 => bnd (body ρ1) (yfv (yfw tg body n k (i + 1))) σ
def forK (tg : D -> Ev -> Option Ev) (body : Ev -> M Fl) (ρ : Ev) : Src -> M Fl
  | .seq ds => yin tg body ds ρ
  | .lref n => yfw tg body n 1001 0 ρ
def yjl (src : Ev -> M Src) (tg : D -> Ev -> Option Ev) (body : Ev -> M Fl) : Ev -> M Fl := fun ρ => xs ρ (src ρ) (forK tg body ρ)
section
variable {T : Tb} {X : Cx}
theorem zro {μ1 : List Addr} {H1 : Hp} {σ1 : Sto} {fl : Fl} {gl : Gl2} {D : Ends} {k : Ev -> M Fl} {N : St -> Hp -> Prop} (r1 : Rel T μ1 H1 σ1) (q1 : RFl T μ1 H1 fl gl) (p1 : yhp T EN (RFl T) μ1 H1 (yfv k fl σ1) (yhm X D))
    (hN : ∀ ρ2 st2, yhl T μ1 H1 ρ2 st2 -> yhp T EN (RFl T) μ1 H1 (k ρ2 σ1) (yhm X D) -> N st2 H1) : yhm X { D with nx := N, ct := N, bk := D.nx } gl H1 := by
  cases fl with
  | nx ρ2 => cases gl with
    | nx st2 => exact hN ρ2 st2 q1 p1
    | _ => exact q1.elim
  | ct ρ2 => cases gl with
    | ct st2 => exact hN ρ2 st2 q1 p1
    | _ => exact q1.elim
  | bk ρ2 => cases gl with
    | bk st2 => have z : yhm X D (Gl2.nx st2) H1 := yhp.here (g := Gl2.nx st2) (d := Fl.nx ρ2) p1 r1 q1; exact z
    | _ => exact q1.elim
  | rt d2 => cases gl with
    | rt v2 => have z : yhm X D (Gl2.rt v2) H1 := yhp.here (g := Gl2.rt v2) (d := Fl.rt d2) p1 r1 q1; exact z
    | _ => exact q1.elim
  | xc ρ2 x => cases gl with
    | xc st2 c => have z : yhm X D (Gl2.xc st2 c) H1 := yhp.here (g := Gl2.xc st2 c) (d := Fl.xc ρ2 x) p1 r1 q1; exact z
    | _ => exact q1.elim
variable {tgt iter : Expr} {body : List Stmt} {src : Ev -> M Src} {t : D -> Ev -> Option Ev} {g : Ev -> M Fl} {pos : Pos}
theorem zz9 (hp : PassesOwn (model X.prog X.w) X.A X.env X.xe) (hc : X.calm = true) (hi : FI T X tgt iter src) (hg : FG T X tgt t) (hb : FSs T X body g)
    (hs : ∀ x, foldedSetIterable iter X.env x = pure x := by intro _; rfl) : FS T X (.For tgt iter body [] pos) (yjl src t g) := by
  intro pins s st H D I hq
  refine ycz hp hc hi hg hb hs pins s st H D I ?_
  obtain ⟨μ, ρ, σ, hE, hr, hp⟩ := hq
  refine ⟨μ, ρ, σ, hE, hr, hp.xs hE fun src σ1 μ1 J H1 _ e1 r1 q1 p1 => ?_⟩
  cases src with
  | seq ds =>
    have p1' : yhp T EN (RFl T) μ1 H1 (yin t g ds ρ σ1) (yhm X D) := p1
    refine ⟨fun i m st2 H2 => m = ds.length - i /\ ∃ μ ρ σ, Ext μ1 H1 μ H2 /\ yhl T μ H2 ρ st2 /\ Rel T μ H2 σ /\ yhp T EN (RFl T) μ H2 (yin t g (ds.drop i) ρ σ) (yhm X D), ⟨ds.length, by simp, μ1, ρ, σ1, Ext.refl _ _, hE.mono e1, r1, by simpa using p1'⟩, ?_⟩
    rintro i m st2 H2 ⟨rfl, μ2, ρ2, σ2, ex, hE2, r2, p2⟩
    have so := q1 μ2 H2 σ2 i ex r2
    have so' : match (some ds[i]? : Option (Option L4.D)) with | none => True | some none => J.stop i H2 | some (some d) => J.go i H2 /\ ∀ x H', J.yld i H2 x H' -> H' = H2 /\ Rep T μ2 H2 d x := so
    cases ei : ds[i]? with
    | none =>
      rw [ei] at so'
      rw [List.drop_eq_nil_of_le (List.getElem?_eq_none_iff.mp ei)] at p2
      exact .inl ⟨so', yhp.here (g := Gl2.nx st2) p2 r2 hE2⟩
    | some d =>
      rw [ei] at so'
      obtain ⟨hl, ed⟩ := List.getElem?_eq_some_iff.mp ei
      have hd : ds.drop i = d :: ds.drop (i + 1) := by rw [<- ed]; exact (List.drop_eq_getElem_cons hl)
      rw [hd] at p2
      unfold yin at p2
      refine .inr ⟨so'.1, fun st3 H3 => ∃ μ ρ σ, Ext μ1 H1 μ H3 /\ yhl T μ H3 ρ st3 /\ Rel T μ H3 σ /\ yhp T EN (RFl T) μ H3 (yin t g (ds.drop (i + 1)) ρ σ) (yhm X D), fun st3 H3 h => ⟨ds.length - (i + 1), by omega, rfl, h⟩, fun x H3 y => ?_⟩
      obtain ⟨rfl, hx⟩ := so'.2 x H3 y
      cases ht : t d ρ2 with
      | none => rw [ht] at p2; exact p2.elim
      | some ρ3 =>
        rw [ht] at p2
        exact ⟨μ2, σ2, ρ2, d, ρ3, hE2, r2, hx, ht, fun st3 hE3 => ⟨μ2, ρ3, σ2, hE3, r2, p2.bind fun fl σ4 μ4 gl H4 _ e4 r4 q4 p4 => zro r4 q4 p4 fun ρ5 st5 hE5 p5 => ⟨μ4, ρ5, σ4, ex.trans e4, hE5, r4, p5⟩⟩⟩
  | lref n =>
    have p1' : yhp T EN (RFl T) μ1 H1 (yfw t g n 1001 0 ρ σ1) (yhm X D) := p1
    refine ⟨fun i m st2 H2 => ∃ μ ρ σ, Ext μ1 H1 μ H2 /\ yhl T μ H2 ρ st2 /\ Rel T μ H2 σ /\ yhp T EN (RFl T) μ H2 (yfw t g n m i ρ σ) (yhm X D), ⟨1001, μ1, ρ, σ1, Ext.refl _ _, hE.mono e1, r1, p1'⟩, ?_⟩
    rintro i m st2 H2 ⟨μ2, ρ2, σ2, ex, hE2, r2, p2⟩
    cases m with
    | zero => exact p2.elim
    | succ m =>
      unfold yfw at p2
      have so := q1 μ2 H2 σ2 i ex r2
      have so' : match ((yfy σ2 n).map fun xs => xs[i]? : Option (Option L4.D)) with | none => True | some none => J.stop i H2 | some (some d) => J.go i H2 /\ ∀ x H', J.yld i H2 x H' -> H' = H2 /\ Rep T μ2 H2 d x := so
      cases el : yfy σ2 n with
      | none => simp only [el] at p2; exact p2.elim
      | some xs =>
        simp only [el] at p2 so'
        cases ei : xs[i]? with
        | none =>
          simp only [ei, Option.map_some] at p2 so'
          exact .inl ⟨so', yhp.here (g := Gl2.nx st2) p2 r2 hE2⟩
        | some d =>
          simp only [ei, Option.map_some] at p2 so'
          refine .inr ⟨so'.1, fun st3 H3 => ∃ μ ρ σ, Ext μ1 H1 μ H3 /\ yhl T μ H3 ρ st3 /\ Rel T μ H3 σ /\ yhp T EN (RFl T) μ H3 (yfw t g n m (i + 1) ρ σ) (yhm X D), fun st3 H3 h => ⟨m, Nat.lt_succ_self _, h⟩, fun x H3 y => ?_⟩
          obtain ⟨rfl, hx⟩ := so'.2 x H3 y
          cases ht : t d ρ2 with
          | none => simp only [ht] at p2; exact p2.elim
          | some ρ3 =>
            simp only [ht] at p2
            exact ⟨μ2, σ2, ρ2, d, ρ3, hE2, r2, hx, ht, fun st3 hE3 => ⟨μ2, ρ3, σ2, hE3, r2, p2.bind fun fl σ4 μ4 gl H4 _ e4 r4 q4 p4 => zro r4 q4 p4 fun ρ5 st5 hE5 p5 => ⟨μ4, ρ5, σ4, ex.trans e4, hE5, r4, p5⟩⟩⟩
end
end L4
namespace L4
open PySem PySem.Spec PyProof.Rows L2
mutual
def cl : D -> Bool
  | .tup xs => clL xs
  | .lst xs => clL xs
  | .dic _ xs => clL xs
  | .obj _ _ xs => clL xs
  | .ref _ => false
  | .non => true
  | .bl _ => true
  | .int _ => true
  | .str _ => true
  | .scr _ => true
  | .exn _ => true
def clL : List D -> Bool
  | [] => true
  | d :: ds => cl d && clL ds
end
def fzL (f : D -> Option D) : List D -> Option (List D)
  | [] => some []
  | d :: ds => match f d, fzL f ds with
    | some x, some xs => some (x :: xs)
    | _, _ => none
def fz (k : Nat) (σ : Sto) : Nat -> D -> Option D
  | 0, d => if cl d = true then some d else match d with
    | .ref n => if n < k then some (.ref n) else none
    | _ => none
  | m + 1, d => if cl d = true then some d else match d with
    | .ref n => if n < k then some (.ref n) else match σ[n]? with
      | some (.lst xs) => (fzL (fz k σ m) xs).map .lst
      | some (.dic kvs) => (fzL (fz k σ m) (kvs.map (·.2))).map (.dic (kvs.map (·.1)))
      | some (.ins c fs) => (fzL (fz k σ m) (fs.map (·.2))).map (.obj c (fs.map (·.1)))
      | none => none
    | .tup xs => (fzL (fz k σ m) xs).map .tup
    | .lst xs => (fzL (fz k σ m) xs).map .lst
    | .dic ks xs => (fzL (fz k σ m) xs).map (.dic ks)
    | .obj c ns xs => (fzL (fz k σ m) xs).map (.obj c ns)
    | _ => none
open Classical in
noncomputable def yig (σ : Sto) : Out D -> Out D
  | .ok d σ' => if σ'.take σ.length = σ then (match fz σ.length σ' 6 d with
    | some d' => .ok d' σ
    | none => .bad) else .bad
  | .ex x σ' => if σ'.take σ.length = σ then .ex x σ else .bad
  | .bad => .bad
noncomputable def frz (f : M D) : M D := fun σ => yig σ (f σ)
section
variable {T : Tb} {μ μ' : List Addr} {H H' : Hp} {σ σ' : Sto}
mutual
theorem zsn (e : ∃ r, μ' = μ ++ r) : ∀ (d : D) (v : V), cl d = true -> Rep T μ' H d v -> Rep T μ H d v
  | .non, v, _, h => by simpa [Rep] using h
  | .bl b, v, _, h => by simpa [Rep] using h
  | .int i, v, _, h => by simpa [Rep] using h
  | .str x, v, _, h => by simpa [Rep] using h
  | .tup ds, v, c, h => by
    rw [Rep] at h ⊢
    obtain ⟨p, vs, h1, h2, h3⟩ := h
    exact ⟨p, vs, h1, h2, znp e ds vs (by simpa [cl] using c) h3⟩
  | .scr ns, v, _, h => by rw [Rep] at h ⊢; exact h
  | .ref n, v, c, h => by simp [cl] at c
  | .lst ds, v, c, h => by
    rw [Rep] at h ⊢
    obtain ⟨a, vs, h1, h2, h3, h4⟩ := h
    exact ⟨a, vs, h1, fun z => h2 (by obtain ⟨r, rfl⟩ := e; exact List.mem_append_left _ z), h3, znp e ds vs (by simpa [cl] using c) h4⟩
  | .dic ks ds, v, c, h => by
    rw [Rep] at h ⊢
    obtain ⟨a, vs, h1, h2, h3, h5, h4⟩ := h
    exact ⟨a, vs, h1, fun z => h2 (by obtain ⟨r, rfl⟩ := e; exact List.mem_append_left _ z), h3, h5, znp e ds _ (by simpa [cl] using c) h4⟩
  | .obj k ns ds, v, c, h => by
    rw [Rep] at h ⊢
    obtain ⟨a, dx, vs, h1, h2, h3, h5, h4⟩ := h
    exact ⟨a, dx, vs, h1, fun z => h2 (by obtain ⟨r, rfl⟩ := e; exact List.mem_append_left _ z), h3, h5, znp e ds _ (by simpa [cl] using c) h4⟩
  | .exn k, v, _, h => by
    rw [Rep] at h ⊢
    obtain ⟨a, h1, h2, h3⟩ := h
    exact ⟨a, h1, fun z => h2 (by obtain ⟨r, rfl⟩ := e; exact List.mem_append_left _ z), h3⟩
theorem znp (e : ∃ r, μ' = μ ++ r) : ∀ (ds : List D) (vs : List V), clL ds = true -> yhu T μ' H ds vs -> yhu T μ H ds vs
  | [], vs, _, h => by simpa [yhu] using h
  | d :: ds, vs, c, h => by
    rw [yhu] at h ⊢
    obtain ⟨v, r, h1, h2, h3⟩ := h
    have c' : cl d = true /\ clL ds = true := by simpa [clL, Bool.and_eq_true] using c
    exact ⟨v, r, h1, zsn e d v c'.1 h2, znp e ds r c'.2 h3⟩
end
mutual
theorem Rep.down (e : ∃ r, μ' = μ ++ r) : ∀ (d : D) (v0 v : V), Rep T μ H d v0 -> Rep T μ' H' d v -> Rep T μ H' d v
  | .non, v0, v, _, h => by simpa [Rep] using h
  | .bl b, v0, v, _, h => by simpa [Rep] using h
  | .int i, v0, v, _, h => by simpa [Rep] using h
  | .str x, v0, v, _, h => by simpa [Rep] using h
  | .tup ds, v0, v, c, h => by
    rw [Rep] at h c ⊢
    obtain ⟨p, vs, h1, h2, h3⟩ := h
    obtain ⟨p0, vs0, _, _, c3⟩ := c
    exact ⟨p, vs, h1, h2, yhu.down e ds vs0 vs c3 h3⟩
  | .scr ns, v0, v, _, h => by rw [Rep] at h ⊢; exact h
  | .ref n, v0, v, c, h => by
    rw [Rep] at h c ⊢
    obtain ⟨a, h1, h2⟩ := h
    obtain ⟨b, _, c2⟩ := c
    refine ⟨a, h1, ?_⟩
    obtain ⟨r, rfl⟩ := e
    rw [List.getElem?_append_left (List.getElem?_eq_some_iff.mp c2).1] at h2
    exact h2
  | .lst ds, v0, v, c, h => by
    rw [Rep] at h c ⊢
    obtain ⟨a, vs, h1, h2, h3, h4⟩ := h
    obtain ⟨_, vs0, _, _, _, c4⟩ := c
    exact ⟨a, vs, h1, fun z => h2 (by obtain ⟨r, rfl⟩ := e; exact List.mem_append_left _ z), h3, yhu.down e ds vs0 vs c4 h4⟩
  | .dic ks ds, v0, v, c, h => by
    rw [Rep] at h c ⊢
    obtain ⟨a, vs, h1, h2, h3, h5, h4⟩ := h
    obtain ⟨_, vs0, _, _, _, _, c4⟩ := c
    exact ⟨a, vs, h1, fun z => h2 (by obtain ⟨r, rfl⟩ := e; exact List.mem_append_left _ z), h3, h5, yhu.down e ds _ _ c4 h4⟩
  | .obj k ns ds, v0, v, c, h => by
    rw [Rep] at h c ⊢
    obtain ⟨a, dx, vs, h1, h2, h3, h5, h4⟩ := h
    obtain ⟨_, _, vs0, _, _, _, _, c4⟩ := c
    exact ⟨a, dx, vs, h1, fun z => h2 (by obtain ⟨r, rfl⟩ := e; exact List.mem_append_left _ z), h3, h5, yhu.down e ds _ _ c4 h4⟩
  | .exn k, v0, v, _, h => by
    rw [Rep] at h ⊢
    obtain ⟨a, h1, h2, h3⟩ := h
    exact ⟨a, h1, fun z => h2 (by obtain ⟨r, rfl⟩ := e; exact List.mem_append_left _ z), h3⟩
theorem yhu.down (e : ∃ r, μ' = μ ++ r) : ∀ (ds : List D) (vs0 vs : List V), yhu T μ H ds vs0 -> yhu T μ' H' ds vs -> yhu T μ H' ds vs
  | [], vs0, vs, _, h => by simpa [yhu] using h
  | d :: ds, vs0, vs, c, h => by
    rw [yhu] at h c ⊢
    obtain ⟨v, r, h1, h2, h3⟩ := h
    obtain ⟨v0, r0, _, c2, c3⟩ := c
    exact ⟨v, r, h1, Rep.down e d v0 v c2 h2, yhu.down e ds r0 r c3 h3⟩
end
theorem zg8 {α : Type} (e : ∃ r, μ' = μ ++ r) : ∀ {xs : List (α × D)} {ys zs : List (α × V)}, Paired (fun (p : α × D) (q : α × V) => p.1 = q.1 /\ Rep T μ H p.2 q.2) xs zs -> Paired (fun (p : α × D) (q : α × V) => p.1 = q.1 /\ Rep T μ' H' p.2 q.2) xs ys -> Paired (fun (p : α × D) (q : α × V) => p.1 = q.1 /\ Rep T μ H' p.2 q.2) xs ys
  | _, _, _, .nil, .nil => .nil
  | _, _, _, .cons a b, .cons c d => .cons ⟨c.1, Rep.down e _ _ _ a.2 c.2⟩ (zg8 e b d)
theorem ObR.down (e : ∃ r, μ' = μ ++ r) {a : Addr} : ∀ {o : Ob}, ObR T μ H a o -> ObR T μ' H' a o -> ObR T μ H' a o
  | .lst ds, ⟨_, _, c⟩, ⟨vs, h, r⟩ => ⟨vs, h, yhu.down e _ _ _ c r⟩
  | .dic kvs, ⟨_, _, c⟩, ⟨vs, h, r⟩ => ⟨vs, h, zg8 e c r⟩
  | .ins c fs, ⟨_, _, _, c'⟩, ⟨dx, vs, h, r⟩ => ⟨dx, vs, h, zg8 e c' r⟩
theorem Rel.down (r0 : Rel T μ H σ) (r : Rel T μ' H' σ') (e : Ext μ H μ' H') (ht : σ'.take σ.length = σ) : Rel T μ H' σ /\ Ext μ H μ H' := by
  refine ⟨⟨r0.len, r0.nd, fun n o h => ?_⟩, ⟨⟨[], by simp⟩, e.tup, e.frz, fun p o h n => ⟨(e.keep p o h n).1, n⟩⟩⟩
  obtain ⟨a, h1, h2⟩ := r0.obs n o h
  have h' : σ'[n]? = some o := by
    have hl := (List.getElem?_eq_some_iff.mp h).1
    rw [<- ht, List.getElem?_take_of_lt hl] at h
    exact h
  obtain ⟨b, h3, h4⟩ := r.obs n o h'
  have eb := e.get h1
  rw [h3] at eb; cases eb
  exact ⟨a, h1, h2.down e.pre h4⟩
theorem zjd {α : Type} : ∀ {xs : List (α × D)} {ys : List (α × V)}, Paired (fun (p : α × D) (q : α × V) => p.1 = q.1 /\ Rep T μ H p.2 q.2) xs ys -> ys.map (·.1) = xs.map (·.1) /\ yhu T μ H (xs.map (·.2)) (ys.map (·.2))
  | _, _, .nil => ⟨rfl, yhu.nil⟩
  | _, _, .cons a b => by
    obtain ⟨h1, h2⟩ := zjd b
    exact ⟨by simp [h1, a.1], yhu.cons a.2 h2⟩
theorem zt6 {f : D -> Option D} (hf : ∀ d d' v, f d = some d' -> Rep T μ' H d v -> Rep T μ H d' v) : ∀ (ds ds' : List D) (vs : List V), fzL f ds = some ds' -> yhu T μ' H ds vs -> yhu T μ H ds' vs
  | [], ds', vs, h, r => by cases h; simpa [yhu] using r
  | d :: ds, ds', vs, h, r => by
    unfold fzL at h
    cases e1 : f d with
    | none => rw [e1] at h; cases h
    | some x =>
      cases e2 : fzL f ds with
      | none => rw [e1, e2] at h; cases h
      | some xs =>
        rw [e1, e2] at h; cases h
        rw [yhu] at r
        obtain ⟨v, w, rfl, h2, h3⟩ := r
        exact yhu.cons (hf d x v e1 h2) (zt6 hf ds xs w e2 h3)
theorem yaj (e : ∃ r, μ' = μ ++ r) (r : Rel T μ' H σ') : ∀ (m : Nat) (d d' : D) (v : V), fz μ.length σ' m d = some d' -> Rep T μ' H d v -> Rep T μ H d' v := by
  have old : ∀ n v, n < μ.length -> Rep T μ' H (.ref n) v -> Rep T μ H (.ref n) v := fun n v hn h => by
    rw [Rep] at h ⊢
    obtain ⟨a, h1, h2⟩ := h
    obtain ⟨q, rfl⟩ := e
    rw [List.getElem?_append_left hn] at h2
    exact ⟨a, h1, h2⟩
  intro m
  induction m with
  | zero =>
    intro d d' v h hr
    unfold fz at h
    by_cases hc : cl d = true
    · rw [if_pos hc] at h; cases h; exact zsn e _ _ hc hr
    · rw [if_neg hc] at h
      cases d with
      | ref n =>
        dsimp only at h
        by_cases hn : n < μ.length
        · rw [if_pos hn] at h; cases h; exact old n v hn hr
        · rw [if_neg hn] at h; cases h
      | _ => cases h
  | succ m ih =>
    intro d d' v h hr
    unfold fz at h
    by_cases hc : cl d = true
    · rw [if_pos hc] at h; cases h; exact zsn e _ _ hc hr
    · rw [if_neg hc] at h
      have go := zt6 (T := T) (μ := μ) (μ' := μ') (H := H) (f := fz μ.length σ' m) (fun d d' v a b => ih d d' v a b)
      cases d with
      | ref n =>
        dsimp only at h
        by_cases hn : n < μ.length
        · rw [if_pos hn] at h; cases h; exact old n v hn hr
        · rw [if_neg hn] at h
          cases es : σ'[n]? with
          | none => rw [es] at h; cases h
          | some o =>
            rw [es] at h
            obtain ⟨a, rfl, ha, hob⟩ := r.at hr es
            have out : a ∉ μ := fun z => by
              obtain ⟨i, hi⟩ := List.getElem?_of_mem z
              obtain ⟨q, rfl⟩ := e
              have hl := (List.getElem?_eq_some_iff.mp hi).1
              have := zpw r.nd (i := i) (j := n) (by rw [List.getElem?_append_left hl]; exact hi) ha
              omega
            cases o with
            | lst xs =>
              obtain ⟨ys, h1, h2⟩ := Option.map_eq_some_iff.mp h
              subst h2
              obtain ⟨vs, h3, h4⟩ := hob
              rw [Rep]
              exact ⟨a, vs, rfl, out, h3, go xs ys vs h1 h4⟩
            | dic kvs =>
              obtain ⟨ys, h1, h2⟩ := Option.map_eq_some_iff.mp h
              subst h2
              obtain ⟨vs, h3, h4⟩ := hob
              obtain ⟨h5, h6⟩ := zjd h4
              rw [Rep]
              exact ⟨a, vs, rfl, out, h3, h5, go _ ys _ h1 h6⟩
            | ins c fs =>
              obtain ⟨ys, h1, h2⟩ := Option.map_eq_some_iff.mp h
              subst h2
              obtain ⟨dx, vs, h3, h4⟩ := hob
              obtain ⟨h5, h6⟩ := zjd h4
              rw [Rep]
              exact ⟨a, dx, vs, rfl, out, h3, h5, go _ ys _ h1 h6⟩
      | tup xs =>
        obtain ⟨ys, h1, h2⟩ := Option.map_eq_some_iff.mp h
        subst h2
        rw [Rep] at hr ⊢
        obtain ⟨p, vs, e1, e2, e3⟩ := hr
        exact ⟨p, vs, e1, e2, go xs ys vs h1 e3⟩
      | lst xs =>
        obtain ⟨ys, h1, h2⟩ := Option.map_eq_some_iff.mp h
        subst h2
        rw [Rep] at hr ⊢
        obtain ⟨p, vs, e1, e0, e2, e3⟩ := hr
        exact ⟨p, vs, e1, fun z => e0 (by obtain ⟨r, rfl⟩ := e; exact List.mem_append_left _ z), e2, go xs ys vs h1 e3⟩
      | dic ks xs =>
        obtain ⟨ys, h1, h2⟩ := Option.map_eq_some_iff.mp h
        subst h2
        rw [Rep] at hr ⊢
        obtain ⟨p, vs, e1, e0, e2, e4, e3⟩ := hr
        exact ⟨p, vs, e1, fun z => e0 (by obtain ⟨r, rfl⟩ := e; exact List.mem_append_left _ z), e2, e4, go xs ys _ h1 e3⟩
      | obj c ks xs =>
        obtain ⟨ys, h1, h2⟩ := Option.map_eq_some_iff.mp h
        subst h2
        rw [Rep] at hr ⊢
        obtain ⟨p, dx, vs, e1, e0, e2, e4, e3⟩ := hr
        exact ⟨p, dx, vs, e1, fun z => e0 (by obtain ⟨r, rfl⟩ := e; exact List.mem_append_left _ z), e2, e4, go xs ys _ h1 e3⟩
      | _ => cases h
theorem yhp.frz {E : XK} {f : M D} {Q : V -> Hp -> Prop} (r : Rel T μ H σ) (h : yhp T E (Rep T) μ H (frz f σ) Q) : yhp T E (Rep T) μ H (f σ) Q := by
  unfold L4.frz at h
  cases e : f σ with
  | bad => rw [e] at h; exact h
  | ex x σ1 =>
    rw [e] at h
    unfold yig at h
    dsimp only at h
    by_cases ht : σ1.take σ.length = σ
    · rw [if_pos ht] at h
      intro μ1 H1 e1 r1
      obtain ⟨r2, e2⟩ := Rel.down r r1 e1 ht
      exact h μ H1 e2 r2
    · rw [if_neg ht] at h; exact h.elim
  | ok d σ1 =>
    rw [e] at h
    unfold yig at h
    dsimp only at h
    by_cases ht : σ1.take σ.length = σ
    · rw [if_pos ht] at h
      cases ef : fz σ.length σ1 6 d with
      | none => rw [ef] at h; exact h.elim
      | some d' =>
        rw [ef] at h
        intro μ1 v H1 e1 r1 p1
        obtain ⟨r2, e2⟩ := Rel.down r r1 e1 ht
        exact h μ v H1 e2 r2 (yaj e1.pre r1 6 d d' v (by rw [r.len]; exact ef) p1)
    · rw [if_neg ht] at h; exact h.elim
end
noncomputable def yia (f : Ev -> M D) : Ev -> M D := fun ρ => frz (f ρ)
theorem zzm {T : Tb} {X : Cx} {e : Expr} {f : Ev -> M D} (h : FE T X e f) : FE T X e (yia f) := by
  intro pins s st H Q I hw
  obtain ⟨μ, ρ, σ, hE, hr, hp⟩ := hw
  exact h pins s st H Q I ⟨μ, ρ, σ, hE, hr, yhp.frz hr hp⟩
end L4
namespace L4
open PySem PySem.Spec PyProof.Rows L2
section
variable {P : Program} {w : World} {H H' : Hp} {h h' : Heap} {a : Addr} {o : HO}
theorem zgy (x : yed P w H h a o) : ∃ u, h.get? a = some u := by
  cases o with
  | lst xs => obtain ⟨_, _, _, _, e⟩ := x; exact ⟨_, e⟩
  | tup xs => obtain ⟨_, _, _, ob, e, _⟩ := x; exact ⟨_, e⟩
  | dK kvs => obtain ⟨_, _, _, _, o, _, _, e, _⟩ := x; exact ⟨_, e⟩
  | dT kvs => obtain ⟨_, _, _, _, o, _, _, e, _⟩ := x; exact ⟨_, e⟩
  | set S n => obtain ⟨o, _, _, _, e, _⟩ := x; exact ⟨_, e⟩
  | ins C dx fs => obtain ⟨_, _, _, e, _⟩ := x; exact ⟨_, e⟩
  | own y => obtain ⟨_, e⟩ := x; exact ⟨_, e⟩
  | xd fs => obtain ⟨_, ⟨_, _, _, e, _⟩, _⟩ := x; exact ⟨_, e⟩
  | rng lo hi => obtain ⟨_, _, _, e⟩ := x; exact ⟨_, e⟩
  | frz ob u => obtain ⟨e, _⟩ := x; exact ⟨_, e⟩
  | tbl ps => exact ⟨_, x⟩
  | met f y => exact ⟨_, x⟩
  | ext φ => obtain ⟨_, ⟨_, e⟩, _⟩ := x; exact ⟨_, e⟩
theorem yam (x : HOk P w H h) (k : ∀ b o u, H b = some o -> h.get? b = some u -> h'.get? b = some u) : HOk P w H h' := fun b o e =>
  (x b o e).stay (fun c v hc q => by
    rcases hc with rfl | hc
    · exact k _ _ _ e q
    · exact k _ _ _ hc q) (fun _ q => q) fun _ _ q => q
end
section
variable {X : Cx} {pins : List (Addr × Obj)} {st : St} {H H' : Hp} {s s' : Shared} {cls : Value} {h' : Heap} {ea : Addr} {args : List Value} {M : Model} {E : Value -> Shared -> Prop} {Q : Unit -> Shared -> Prop}
theorem ztx (hs : X.stack = X.env :: X.outer) (hf : X.env.frame = some X.env.locals) {b : Addr} : b ∈ frs X.stack ↔ b = X.env.locals \/ b ∈ frs X.outer := by
  rw [hs]; unfold frs; rw [List.filterMap_cons, hf]; exact List.mem_cons
theorem zz2 (I : Inv X pins st H s) (hs : X.stack = X.env :: X.outer) (hf : X.env.frame = some X.env.locals) (hx : X.ex = []) {h'' : Heap} (un : Un (frs X.stack) [] H H' s.heap h'') : Un (frs X.outer) [] X.H₀ H' X.s₀.heap h'' := by
  have nex : ∀ b, b ∉ X.ex := fun b z => by rw [hx] at z; cases z
  have neL : ∀ b o, X.s₀.heap.get? b = some o -> b ≠ X.env.locals := fun b o e => Nat.ne_of_lt (Nat.lt_of_lt_of_le (Heap.lt_size e) I.ok.above)
  refine ⟨fun b o e n hb _ => ?_, fun b o e n hb _ => ?_, fun b o e n _ => ?_, fun b o e _ => ?_, fun b xs e => un.tups b xs (I.base.tups b xs e), fun b o u e => un.frzs b o u (I.base.frzs b o u e), fun b ps e => ?_⟩
  · exact un.keep b o (I.base.keep b o e n hb (nex b)) (I.base.free b o e n (nex b)) (fun z => ((ztx hs hf).mp z).elim (neL b o e) hb) (by simp)
  · obtain ⟨sl, e1⟩ := I.base.slot b o e n hb (nex b)
    obtain ⟨sl', e2⟩ := un.slot b _ e1 (I.base.free b o e n (nex b)) ((ztx hs hf).mpr (.inr hb)) (by simp)
    exact ⟨sl', e2⟩
  · obtain ⟨o', e1⟩ := I.base.there b o e (nex b)
    exact un.free b o' e1 (I.base.free b o e n (nex b)) (by simp)
  · obtain ⟨o', e1⟩ := I.base.there b o e (nex b)
    exact un.there b o' e1 (by simp)
  · obtain ⟨m1, e1⟩ := I.base.tbls b ps e
    obtain ⟨m2, e2⟩ := un.tbls b _ e1
    exact ⟨m1 ++ m2, by rw [e2, Array.append_assoc]⟩
theorem ziq (I : Inv X pins st H s) (hs : X.stack = X.env :: X.outer) (hf : X.env.frame = some X.env.locals) (hex : X.ex = []) (hx : Heap.MadeExcOf s.heap h' ea cls args)
    (hQ : ∀ s'', Fly X.prog X.w X.outer X.H₀ X.s₀ cls H (.ref ea) s'' -> Q () s'') : wpAny M X.A (leaving X.env (.ref ea)) Q E { s with heap := h' } := by
  have ff : s.heap.FunFrames (PySem.W.hideAll s.heap (frs X.stack)) (X.env :: X.outer) := by
    have := PySem.W.funFrames_hide (as := frs X.stack) I.stack (fun env he a ha => List.mem_filterMap.mpr ⟨env, he, ha⟩)
    rwa [hs] at this ⊢
  have hid : ∀ b o, s.heap.get? b = some o -> b ∉ frs X.stack -> (PySem.W.hideAll s.heap (frs X.stack)).get? b = some o := fun b o e n => PySem.W.hideAll_get _ e n
  refine wpAny_leaves_madeW (base := PySem.W.hideAll s.heap (frs X.stack)) (h := s.heap) (outer := X.outer) (L := X.env.locals) (by rw [<- hs]; exact I.ok.frames) hf (fun b o q => PySem.W.of_hideAll _ q) ff hx fun h'' t x1 x2 x3 x4 => hQ _ ?_
  have stay : ∀ b o, s.heap.get? b = some o -> b ∉ frs X.stack -> h''.get? b = some o := fun b o e n => x1.1 b o (hid b o e n)
  have slots : ∀ b o, s.heap.get? b = some o -> b ∈ frs X.stack -> ∃ sl, h''.get? b = some { o with slots := sl } := fun b o e n => by
    obtain ⟨_, o', e', hd⟩ := I.stack.mem n
    rw [e] at e'; cases e'
    exact x4 b o (hx.keeps b o e) hd
  have un : Un (frs X.stack) [] H H s.heap h'' := ⟨fun b o e n hb _ => stay b o e hb, fun b o e n hb _ => slots b o e hb, fun b o e n _ => n, fun b o e _ => by
    by_cases hb : b ∈ frs X.stack
    · obtain ⟨sl, q⟩ := slots b o e hb; exact ⟨_, q⟩
    · exact ⟨o, stay b o e hb⟩, fun _ _ e => e, fun _ _ _ e => e, fun b ps e => ⟨#[], by rw [e]; simp⟩⟩
  have hn : H ea = none := by
    cases q : H ea with
    | none => rfl
    | some u => obtain ⟨v, e⟩ := zgy (I.hok _ _ q); rw [hx.new] at e; cases e
  have nst : ∀ b o, H b = some o -> b ∉ frs X.stack := fun b o e z => by rw [I.stkFree b z] at e; cases e
  have nex : ∀ b, b ∉ X.ex := fun b z => by rw [hex] at z; cases z
  have neL : ∀ b o, X.s₀.heap.get? b = some o -> b ≠ X.env.locals := fun b o e => Nat.ne_of_lt (Nat.lt_of_lt_of_le (Heap.lt_size e) I.ok.above)
  refine ⟨⟨ea, .ref t, _, rfl, x1, hn, ?_, fun b o e => ?_, fun b o e n hb => ?_, fun b o e hb => ?_⟩, I.os, I.bare, zz2 I hs hf hex un, yam I.hok fun b o u e q => stay b u q (nst b o e)⟩
  · cases q : X.s₀.heap.get? ea with
    | none => rfl
    | some u => obtain ⟨v, e⟩ := I.base.there _ _ q (nex _); rw [hx.new] at e; cases e
  · obtain ⟨u, q⟩ := zgy (I.hok _ _ e)
    exact ⟨u, hid b u q (nst b o e)⟩
  · exact hid b o (I.base.keep b o e n hb (nex b)) fun z => ((ztx hs hf).mp z).elim (neL b o e) hb
  · obtain ⟨o', q⟩ := I.base.there b o e (nex b)
    exact ⟨o', hid b o' q fun z => ((ztx hs hf).mp z).elim (neL b o e) hb⟩
theorem zz3 {P : Program} {w : World} {outer : List Env} {e : Value} (F : Fly P w outer H s cls H' e s') {h6 : Heap} {B : Heap} (hB : ∀ b o, s.heap.get? b = some o -> H b = none -> b ∉ frs outer -> B.get? b = some o) (hT : ∀ b o, H' b = some o -> ∃ ob, B.get? b = some ob)
    (hA : ∀ b o, s.heap.get? b = some o -> b ∉ frs outer -> ∃ o', B.get? b = some o') (hb0 : ∀ b o, B.get? b = some o -> s'.heap.get? b = some o) (hb6 : ∀ b o, B.get? b = some o -> h6.get? b = some o) (hsl : s'.heap.UpToSlots h6) (hfr : ∀ b ∈ frs outer, ∃ o, s.heap.get? b = some o /\ (∀ vs, o.data ≠ .fields vs) /\ H b = none) :
    Un (frs outer) [] H H' s.heap h6 /\ HOk P w H' h6 := by
  refine ⟨⟨fun b o e n hb _ => hb6 b o (hB b o e n hb), fun b o e n hb hx => ?_, F.un.free, fun b o e hx => ?_, F.un.tups, F.un.frzs, F.un.tbls⟩, yam F.hok fun b o u e q => ?_⟩
  · obtain ⟨sl, e1⟩ := F.un.slot b o e n hb hx
    obtain ⟨o', e', hd, _⟩ := hfr b hb
    rw [e] at e'; cases e'
    obtain ⟨sl', e2⟩ := hsl b _ e1 hd
    exact ⟨sl', e2⟩
  · by_cases hb : b ∈ frs outer
    · obtain ⟨o', e', hd, hn⟩ := hfr b hb
      rw [e] at e'; cases e'
      obtain ⟨sl, e1⟩ := F.un.slot b o e hn hb hx
      obtain ⟨sl', e2⟩ := hsl b _ e1 hd
      exact ⟨_, e2⟩
    · obtain ⟨o', e1⟩ := hA b o e hb
      exact ⟨o', hb6 b o' e1⟩
  · obtain ⟨ob, e1⟩ := hT b o e
    have := hb0 b ob e1
    rw [q] at this; cases this
    exact hb6 b _ e1
theorem zia (I : Inv X pins st H s) : ∀ b ∈ frs X.stack, ∃ o, s.heap.get? b = some o /\ (∀ vs, o.data ≠ .fields vs) /\ H b = none := fun b hb => by
  obtain ⟨_, o, e, hd⟩ := I.stack.mem hb
  exact ⟨o, e, hd, I.stkFree b hb⟩
theorem zph (I : Inv X pins st H s) (hs : X.stack = X.env :: X.outer) (hf : X.env.frame = some X.env.locals) (hex : X.ex = []) {e : Value} (F : Fly X.prog X.w X.stack H s cls H' e s')
    (hQ : ∀ s'', Fly X.prog X.w X.outer X.H₀ X.s₀ cls H' e s'' -> Q () s'') : wpAny M X.A (leaving X.env e) Q E s' := by
  obtain ⟨ea, a0, B, rfl, fl, hn, hnew, hT, hB, hA⟩ := F.ex
  have fl' : Heap.FlyingW B (X.env :: X.outer) ea cls a0 s'.heap := by rw [<- hs]; exact fl
  refine wpAny_leaves_onW (by rw [<- hs]; exact I.ok.frames) hf fl' fun h'' x1 x2 => hQ _ ?_
  obtain ⟨un, hok⟩ := zz3 F hB hT hA fl.1 x1.1 x2 (zia I)
  have nex : ∀ b, b ∉ X.ex := fun b z => by rw [hex] at z; cases z
  have neL : ∀ b o, X.s₀.heap.get? b = some o -> b ≠ X.env.locals := fun b o e => Nat.ne_of_lt (Nat.lt_of_lt_of_le (Heap.lt_size e) I.ok.above)
  refine ⟨⟨ea, a0, B, rfl, x1, hn, ?_, hT, fun b o e n hb => ?_, fun b o e hb => ?_⟩, F.os.trans I.os, F.bare, zz2 I hs hf hex un, hok⟩
  · cases q : X.s₀.heap.get? ea with
    | none => rfl
    | some u => obtain ⟨v, e⟩ := I.base.there _ _ q (nex _); rw [hnew] at e; cases e
  · exact hB b o (I.base.keep b o e n hb (nex b)) (I.base.free b o e n (nex b)) fun z => ((ztx hs hf).mp z).elim (neL b o e) hb
  · obtain ⟨o', q⟩ := I.base.there b o e (nex b)
    exact hA b o' q fun z => ((ztx hs hf).mp z).elim (neL b o e) hb
end
theorem ydy {P : Program} {w : World} {K : PySem.W.Frag} {mg : Str -> Option Value} {base : Heap} {N : List Str} {qual : Str} {scope : Scope} {f : Addr} {cd : Value} {A : Around} {outer : List Env} {s : Shared} {H : Hp} {E : XK} {st : St} {cls : Value} {H' : Hp}
    (h : E cls none H') : Thr (yh6 (CXE P w) P w K mg base N qual scope f cd A outer s H E) st cls H' where
  fly := fun pins H1 s1 e s' I F => zph I rfl rfl rfl F fun s'' G => ⟨cls, H', G, h⟩
  made := fun pins s1 ea h' args I hx => ziq I rfl rfl rfl hx fun s'' G => ⟨cls, H', G, h⟩
theorem zl9 {P : Program} {w : World} {K : PySem.W.Frag} {mg : Str -> Option Value} {base : Heap} {N : List Str} {qual : Str} {scope : Scope} {f : Addr} {cd : Value} {A : Around} {outer : List Env} {s : Shared} {H : Hp} {E : XK} :
    PassesOwn (model P w) (yh6 (CXE P w) P w K mg base N qual scope f cd A outer s H E).A (yh6 (CXE P w) P w K mg base N qual scope f cd A outer s H E).env (yh6 (CXE P w) P w K mg base N qual scope f cd A outer s H E).xe := PassesOwn.leaving
def endK : Fl -> M D
  | .nx _ => ret .non
  | .rt d => ret d
  | .xc _ x => fun σ => .ex x σ
  | _ => bad
def yji : Out Fl -> Out D
  | .ok fl σ => endK fl σ
  | _ => .bad
def run (n : Nat) (g : Ev -> M Fl) (ds : List D) : M D := fun σ => yji (g (ds.map some ++ List.replicate (n - ds.length) none) σ)
def spF (T : Tb) (n : Nat) (f : List D -> M D) : Sp := fun vs H Q E => ∃ μ σ ds, yhu T μ H ds vs /\ ds.length = n /\ Rel T μ H σ /\ yhp T E (Rep T) μ H (f ds σ) Q
def fnK (n : Nat) (f : List D -> M D) (dds : List D) (ds : List D) : M D := if (ds ++ dds).length = n then f (ds ++ dds) else bad
def eFn (n : Nat) (f : List D -> M D) (dds : List D) (fs : Ev -> M (List D)) : Ev -> M D := fun ρ => bnd (fs ρ) (fnK n f dds)
section
variable {T : Tb} {X : Cx}
theorem zm0 {μ : List Addr} {H : Hp} {ds : List D} {vs : List V} {N : List Str} (h : yhu T μ H ds vs) : yhl T μ H (ds.map some ++ List.replicate (N.length - ds.length) none) (L2.yha N vs) := by
  have hl := h.length
  refine ⟨by simp [L2.yha, hl], fun i d e => ?_⟩
  by_cases hi : i < ds.length
  · rw [List.getElem?_append_left (by simpa using hi), List.getElem?_map] at e
    cases e2 : ds[i]? with
    | none => rw [e2] at e; cases e
    | some x =>
      rw [e2] at e; cases e
      obtain ⟨v, h1, h2⟩ := h.get e2
      refine ⟨v, ?_, h2⟩
      unfold L2.yha
      rw [List.getElem?_append_left (by simpa [<- hl] using hi), List.getElem?_map, h1]; rfl
  · rw [List.getElem?_append_right (by simpa using hi), List.getElem?_replicate] at e
    split at e <;> cases e
variable {k : Nat} {f C : Addr} {fd : FuncData} {ps : List Str} {dvs : List V} {dval : List Value} {dds : List D} {x : Str} {p pos : Pos} {e : Expr} {es : List Expr} {fn : List D -> M D} {fs : Ev -> M (List D)} {sp : Sp} {t : TA}
theorem zwy {pins : List (Addr × Obj)} {st : St} {H : Hp} {s : Shared} {Q : VK} {us : List Value} {vs : List V} (F : FnOk X.prog X.w X.K X.mg X.base (CXE X.prog X.w) k f fd ps sp) (hr : Room k X.A) (hb : yd7 X.K fd ps dval) (hd : yhw dvs dval)
    (I : Inv X pins st H s) (r : yhw vs us) (h : sp (vs ++ dvs) H Q (XE X st)) : wpAny (model X.prog X.w) X.A (call (.ref f) us) (EP X pins st Q) X.xe s := by
  have r2 : yhw (vs ++ dvs) (us ++ dval) := r.append hd
  have hl : (us ++ dval).length = ps.length := by rw [<- r2.length]; exact F.len _ _ _ _ h
  refine wpAny_call (codeAny_mono (F.run X.A X.stack s H ⟨us, []⟩ (us ++ dval) (vs ++ dvs) Q (XE X st) hr I.env0 (hb s us I.kIn hl) r2 h) fun r s' hq => ?_)
  cases r with
  | error e => obtain ⟨cls, H', hfly, ht⟩ := hq; exact ht.fly pins H s e s' I hfly
  | ok fl =>
    cases fl with
    | ret u => exact I.after hq
    | next => exact False.elim hq
    | brk => exact False.elim hq
    | cont => exact False.elim hq
theorem zth (F : FnOk X.prog X.w X.K X.mg X.base (CXE X.prog X.w) k f fd ps (spF T ps.length fn)) (hr : Room k X.A) (hg : Gl X x) (hm : X.mg x = some (.ref f)) (hk : PySem.W.keepIn X.K (.ref f) = true) (hb : yd7 X.K fd ps dval) (hd : yhw dvs dval) (hdd : ∀ μ H, yhu T μ H dds dvs)
    (ha : FA T X (e :: es) fs) (hdb : (x == ("__debug__" : Str)) = false := by decide) (he : starEach (e :: es) X.env = (false, eval e X.env) :: starEach es X.env := by rfl) (hpl : (backTo pos (starEach es X.env)).any (·.1) = false := by rfl) :
    FE T X (.Call (.Name x p) (e :: es) [] pos) (eFn ps.length fn dds fs) := by
  intro pins s st H Q I h
  refine wpAny_Call_Name_kw (zuw I hg hm ?_ hdb)
  obtain ⟨μ, ρ, σ, hE, hr', hp⟩ := h
  refine PySem.W.callWith_K (h₀ := X.base) I.ok.mod.kin hk (thn (ha pos pins s st H (fun vs H1 => spF T ps.length fn (vs ++ dvs) H1 Q (XE X st)) I ⟨μ, ρ, σ, hE, hr', hp.bind fun ds σ1 μ1 vs H1 _ e1 r1 p1 q1 => ?_⟩) fun us s1 ⟨vs, H1, I1, r, q⟩ => ⟨I1.kIn, ?_⟩) he hpl
  · unfold fnK at q1
    by_cases hl : (ds ++ dds).length = ps.length
    · rw [if_pos hl] at q1
      exact ⟨μ1, σ1, ds ++ dds, p1.append (hdd _ _), hl, r1, q1⟩
    · rw [if_neg hl] at q1; exact q1.elim
  · exact zwy F hr hb hd I1 r q
variable {P : Program} {w : World} {K : PySem.W.Frag} {mg : Str -> Option Value} {base : Heap}
theorem fok {x qual : Str} {st : Stmt} {N : List Str} {g : Ev -> M Fl} {params : Arguments} {dV kV doc pm cdv ct oc : Value} {an od : Option Addr} {osl : Array (Option Value)}
    (lk : K.lookup f = some ⟨oc, od, .func (PySem.W.fnOf x qual params (zs2 st) (znx st) dV kV doc pm an cdv ct), osl⟩) (hcd : PySem.W.codeIn K cdv qual = true) (S : FnScope N ps (znx st))
    (hb : ∀ (A : Around) (outer : List Env) (s : Shared) (H : Hp) (E : XK), Room k (A.deeper (envOfC qual (znx st) s.heap.objs.size f cdv)) -> FSs T (yh6 (CXE P w) P w K mg base N qual (znx st) f cdv A outer s H E) (zs2 st) g) :
    FnOk P w K mg base (CXE P w) (k + 1) f (PySem.W.fnOf x qual params (zs2 st) (znx st) dV kV doc pm an cdv ct) ps (spF T ps.length (run N.length g)) := by
  refine yfg lk hcd S (fun vs H Q E h => ?_) (fun A outer s H vs Q E hr h => ?_)
  · obtain ⟨μ, σ, ds, h1, h2, _⟩ := h
    rw [<- h1.length]; exact h2
  · obtain ⟨μ, σ, ds, h1, h2, h3, h4⟩ := h
    refine ⟨_, hb A outer s H E hr, μ, _, σ, zm0 h1, h3, ?_⟩
    unfold run at h4
    cases eg : g (ds.map some ++ List.replicate (N.length - ds.length) none) σ with
    | bad => rw [eg] at h4; exact h4
    | ex x σ1 => rw [eg] at h4; exact h4.elim
    | ok fl σ1 =>
      rw [eg] at h4
      intro μ1 gl H1 e1 r1 q1
      have p1 := h4.mono e1
      cases fl with
      | nx ρ2 => cases gl with
        | nx st2 => have z : Q V.non H1 := yhp.here (d := D.non) p1 r1 (by rw [Rep]); exact z
        | _ => exact q1.elim
      | rt d2 => cases gl with
        | rt v2 => have z : Q v2 H1 := yhp.here (d := d2) p1 r1 q1; exact z
        | _ => exact q1.elim
      | xc ρ2 x2 => cases gl with
        | xc st2 c2 =>
          obtain ⟨_, rfl⟩ := q1
          exact ydy (p1 μ1 H1 (Ext.refl _ _) r1)
        | _ => exact q1.elim
      | _ => exact p1.elim
theorem ztv (F : FnOk P w K mg base (CXE P w) k f fd ps (spF T ps.length fn)) : FnOk P w K mg base (CXE P w) k f fd ps (spF T ps.length (fun ds => frz (fn ds))) :=
  F.imp fun vs H Q E h => by
    obtain ⟨μ, σ, ds, h1, h2, h3, h4⟩ := h
    exact ⟨μ, σ, ds, h1, h2, h3, yhp.frz h3 h4⟩
end
end L4
namespace L4
open PySem PySem.Spec PyProof.Rows L2
def yh3 (env : Env) (names : List (Str × NameKind)) (acc : List (Str × Addr)) : List (Str × Addr) :=
  names.foldl (fun cs y => if (y.2 == .free) = true then (match env.cells.lookup y.1 with | some c => (y.1, c) :: cs | none => cs) else cs) acc
theorem zh6 (env : Env) : ∀ (names : List (Str × NameKind)) (acc : List (Str × Addr)), (∀ y ∈ names, y.2 = .free -> ∃ c, env.cells.lookup y.1 = some c) ->
    (forIn names acc (fun x (cs : List (Str × Addr)) => match x with | (name, kind) => if (kind == .free) = true then (do let a <- cellOf env name; pure (ForInStep.yield ((name, a) :: cs))) else pure (ForInStep.yield cs)) : Sem (List (Str × Addr))) = pure (yh3 env names acc)
  | [], acc, _ => rfl
  | (n, k) :: r, acc, h => by
    rw [List.forIn_cons]
    by_cases hk : (k == NameKind.free) = true
    · obtain ⟨c, hc⟩ := h (n, k) List.mem_cons_self (by simpa using hk)
      have e1 : cellOf env n = pure c := by unfold cellOf; rw [hc]
      simp only [hk, if_true, e1]
      show (forIn r ((n, c) :: acc) _ : Sem (List (Str × Addr))) = _
      rw [zh6 env r ((n, c) :: acc) fun y hy => h y (List.mem_cons_of_mem _ hy)]
      have e2 : yh3 env ((n, k) :: r) acc = yh3 env r ((n, c) :: acc) := by
        unfold yh3; rw [List.foldl_cons]; simp only [hk, if_true, hc]
      rw [e2]
    · simp only [hk]
      show (forIn r acc _ : Sem (List (Str × Addr))) = _
      rw [zh6 env r acc fun y hy => h y (List.mem_cons_of_mem _ hy)]
      have e2 : yh3 env ((n, k) :: r) acc = yh3 env r acc := by
        unfold yh3; rw [List.foldl_cons]; simp only [hk]; rfl
      rw [e2]
theorem zh7 (env : Env) (scope : Scope) (h : ∀ y ∈ scope.names, y.2 = .free -> ∃ c, env.cells.lookup y.1 = some c) : closureFor scope env = pure (yh3 env scope.names []) := by
  have e := zh6 env scope.names [] h
  unfold closureFor
  simp only [bind_pure]
  exact e
theorem zy2 (env : Env) : ∀ (names : List (Str × NameKind)) (acc : List (Str × Addr)) (n : Str) (c : Addr), (∀ n c, acc.lookup n = some c -> env.cells.lookup n = some c) -> (yh3 env names acc).lookup n = some c -> env.cells.lookup n = some c
  | [], acc, n, c, h, e => h n c e
  | (y, k) :: r, acc, n, c, h, e => by
    unfold yh3 at e
    rw [List.foldl_cons] at e
    refine zy2 env r _ n c (fun n c q => ?_) e
    by_cases hk : (k == NameKind.free) = true
    · simp only [hk, if_true] at q
      cases hc : env.cells.lookup y with
      | none => rw [hc] at q; exact h n c q
      | some c' =>
        rw [hc] at q
        rw [List.lookup_cons] at q
        cases hn : (n == y) with
        | true => rw [hn] at q; cases q; rw [eq_of_beq hn]; exact hc
        | false => rw [hn] at q; exact h n c q
    · simp only [hk] at q; exact h n c q
theorem zso (env : Env) : ∀ (names : List (Str × NameKind)) (acc : List (Str × Addr)) (n : Str), (∃ c, acc.lookup n = some c) -> ∃ c, (yh3 env names acc).lookup n = some c
  | [], acc, n, h => h
  | (y, k) :: r, acc, n, h => by
    unfold yh3
    rw [List.foldl_cons]
    refine zso env r _ n ?_
    by_cases hk : (k == NameKind.free) = true
    · simp only [hk, if_true]
      cases hc : env.cells.lookup y with
      | none => exact h
      | some c' =>
        show ∃ c, List.lookup n ((y, c') :: acc) = some c
        rw [List.lookup_cons]
        cases hn : (n == y) with
        | true => exact ⟨c', rfl⟩
        | false => exact h
    · simp only [hk]; exact h
theorem zyz (env : Env) : ∀ (names : List (Str × NameKind)) (acc : List (Str × Addr)) (n : Str), (n, NameKind.free) ∈ names -> (∃ c, env.cells.lookup n = some c) -> ∃ c, (yh3 env names acc).lookup n = some c
  | [], acc, n, h, _ => nomatch h
  | (y, k) :: r, acc, n, h, hc => by
    unfold yh3
    rw [List.foldl_cons]
    rcases List.mem_cons.mp h with e | e
    · cases e
      refine zso env r _ _ ?_
      obtain ⟨c, hc⟩ := hc
      refine ⟨c, ?_⟩
      simp [hc]
    · exact zyz env r _ n e hc
theorem zc2 {env : Env} : ∀ {names : List (Str × NameKind)} {x : Str} {k : NameKind},
    (names.map fun (n, k) => if (k == NameKind.free && env.scope.kind == .function && env.kindOf n == some .cell) then (n, NameKind.cell) else (n, k)).lookup x = some k -> ∃ k0, names.lookup x = some k0 /\ (k = k0 \/ (k0 = .free /\ k = .cell))
  | [], _, _, h => by simp at h
  | (n, k0) :: r, x, k, h => by
    have ih := @zc2 env r x k
    have h' : List.lookup x ((if (k0 == NameKind.free && env.scope.kind == .function && env.kindOf n == some .cell) = true then (n, NameKind.cell) else (n, k0)) :: (r.map fun (n, k) => if (k == NameKind.free && env.scope.kind == .function && env.kindOf n == some .cell) then (n, NameKind.cell) else (n, k))) = some k := h
    cases hx : x == n with
    | true =>
      by_cases hc : (k0 == NameKind.free && env.scope.kind == .function && env.kindOf n == some .cell) = true
      · rw [if_pos hc] at h'
        simp only [List.lookup_cons, hx] at h' ⊢
        cases h'
        simp only [Bool.and_eq_true] at hc
        exact ⟨k0, rfl, .inr ⟨by simpa using hc.1.1, rfl⟩⟩
      · rw [if_neg hc] at h'
        simp only [List.lookup_cons, hx] at h' ⊢
        cases h'
        exact ⟨k0, rfl, .inl rfl⟩
    | false =>
      by_cases hc : (k0 == NameKind.free && env.scope.kind == .function && env.kindOf n == some .cell) = true
      · rw [if_pos hc] at h'; simp only [List.lookup_cons, hx] at h' ⊢; exact ih h'
      · rw [if_neg hc] at h'; simp only [List.lookup_cons, hx] at h' ⊢; exact ih h'
theorem zfj {env : Env} : ∀ {names : List (Str × NameKind)} {x : Str}, names.lookup x = some .free ->
    (names.map fun (n, k) => if (k == NameKind.free && env.scope.kind == .function && env.kindOf n == some .cell) then (n, NameKind.cell) else (n, k)).lookup x = some .cell \/
    (names.map fun (n, k) => if (k == NameKind.free && env.scope.kind == .function && env.kindOf n == some .cell) then (n, NameKind.cell) else (n, k)).lookup x = some .free
  | [], _, h => by simp at h
  | (n, k) :: r, x, h => by
    have ih := @zfj env r x
    have goal : ∀ z, List.lookup x ((if (k == NameKind.free && env.scope.kind == .function && env.kindOf n == some .cell) = true then (n, NameKind.cell) else (n, k)) :: (r.map fun (n, k) => if (k == NameKind.free && env.scope.kind == .function && env.kindOf n == some .cell) then (n, NameKind.cell) else (n, k))) = z ->
      (List.map (fun (n, k) => if (k == NameKind.free && env.scope.kind == .function && env.kindOf n == some .cell) then (n, NameKind.cell) else (n, k)) ((n, k) :: r)).lookup x = z := fun z e => e
    cases hx : x == n with
    | true =>
      simp only [List.lookup_cons, hx] at h
      cases h
      by_cases hc : (NameKind.free == NameKind.free && env.scope.kind == .function && env.kindOf n == some .cell) = true
      · exact .inl (goal _ (by rw [if_pos hc]; simp only [List.lookup_cons, hx]))
      · exact .inr (goal _ (by rw [if_neg hc]; simp only [List.lookup_cons, hx]))
    | false =>
      simp only [List.lookup_cons, hx] at h
      have e : List.lookup x ((if (k == NameKind.free && env.scope.kind == .function && env.kindOf n == some .cell) = true then (n, NameKind.cell) else (n, k)) :: (r.map fun (n, k) => if (k == NameKind.free && env.scope.kind == .function && env.kindOf n == some .cell) then (n, NameKind.cell) else (n, k))) =
          (r.map fun (n, k) => if (k == NameKind.free && env.scope.kind == .function && env.kindOf n == some .cell) then (n, NameKind.cell) else (n, k)).lookup x := by
        by_cases hc : (k == NameKind.free && env.scope.kind == .function && env.kindOf n == some .cell) = true
        · rw [if_pos hc]; simp only [List.lookup_cons, hx]
        · rw [if_neg hc]; simp only [List.lookup_cons, hx]
      rcases ih h with q | q
      · exact .inl (goal _ (e.trans q))
      · exact .inr (goal _ (e.trans q))
theorem zlt {names : List (Str × NameKind)} {x : Str} {k : NameKind} (h : names.lookup x = some k) : (x, k) ∈ names := PySem.mem_of_lookup h
def blk (X : Cx) (N' : List Str) (scope : Scope) (cl : List (Str × Addr)) (C : Addr) (s₀ : Shared) (H₀ : Hp) (ex : List Addr) : Cx :=
  { X with N := N', s₀ := s₀, H₀ := H₀, env := compEnvC scope cl C X.env, outer := X.stack, stack := X.stack, ex := ex, fn := fun _ => false, pn := [], xe := fun _ _ => False }
structure LcOk (X : Cx) (x : Str) (M' : List Str) (ix : List Nat) (scope : Scope) : Prop where
  kind : scope.kind = .function
  cell : (scope.names.all fun y => !(y.2 == .cell)) = true
  names : (scope.names.all fun y => !(y.2 == .local) || scope.names.lookup y.1 == some .local) = true
  free : (scope.names.all fun y => !(y.2 == .free) || (X.env.scope.names.lookup y.1 == some .cell || X.env.scope.names.lookup y.1 == some .free)) = true
  at_ : ix.map (fun i => X.N[i]?) = M'.map some
  vis : (M'.all fun y => (X.env.scope.names.lookup y == some .cell || X.env.scope.names.lookup y == some .free) && scope.names.lookup y == some .free) = true
def yeq (ix : List Nat) (ρ : Ev) : Ev := none :: ix.map fun i => (ρ[i]?).getD none
def yer (ix : List Nat) (st : St) : St := none :: ix.map fun i => (st[i]?).getD none
theorem zsg {T : Tb} {μ : List Addr} {H : Hp} {ρ : Ev} {st : St} (ix : List Nat) (h : yhl T μ H ρ st) : yhl T μ H (yeq ix ρ) (yer ix st) := by
  refine ⟨by simp [yeq, yer], fun i d e => ?_⟩
  cases i with
  | zero => simp [yeq] at e
  | succ j =>
    have e' : (ix.map fun i => (ρ[i]?).getD none)[j]? = some (some d) := e
    rw [List.getElem?_map] at e'
    cases ej : ix[j]? with
    | none => rw [ej] at e'; cases e'
    | some i0 =>
      rw [ej] at e'
      have e2 : (ρ[i0]?).getD none = some d := Option.some.inj e'
      have e3 : ρ[i0]? = some (some d) := by
        cases q : ρ[i0]? with
        | none => rw [q] at e2; cases e2
        | some o => rw [q] at e2; exact congrArg some e2
      obtain ⟨v, h1, h2⟩ := h.2 i0 d e3
      refine ⟨v, ?_, h2⟩
      show (ix.map fun i => (st[i]?).getD none)[j]? = _
      rw [List.getElem?_map, ej]
      show some ((st[i0]?).getD none) = _
      rw [h1]; rfl
section
variable {X : Cx} {pins : List (Addr × Obj)} {st : St} {H : Hp} {s : Shared} {x : Str} {M' : List Str} {ix : List Nat} {scope : Scope} {fp : List Addr}
theorem ztw (L : LcOk X x M' ix scope) (y : Str × NameKind) (hy : y ∈ scope.names) (e : y.2 = .free) : X.env.kindOf y.1 = some .cell \/ X.env.kindOf y.1 = some .free := by
  have q := List.all_eq_true.mp L.free y hy
  rw [e] at q
  simp only [beq_self_eq_true, Bool.not_true, Bool.false_or, Bool.or_eq_true] at q
  rcases q with q | q
  · exact .inl (eq_of_beq q)
  · exact .inr (eq_of_beq q)
theorem zsq (I : Inv X pins st H s) (L : LcOk X x M' ix scope) : ∀ y ∈ scope.names, y.2 = .free -> ∃ c, X.env.cells.lookup y.1 = some c := fun y hy e => I.ok.has y.1 (ztw L y hy e)
theorem ybn (L : LcOk X x M' ix scope) : ∀ y ∈ scope.names, y.2 ≠ .cell := fun y hy e => by
  have q := List.all_eq_true.mp L.cell y hy
  rw [e] at q
  simp at q
theorem zkd (I : Inv X pins st H s) (L : LcOk X x M' ix scope) (hfp : ∀ b ∈ fp, yhn X pins H b /\ b < s.heap.objs.size) {h' : Heap} {t' : Nat} {m : Str -> Option Value} (hns : h'.Ns s.heap.objs.size m)
    (hk : ∀ b o, s.heap.get? b = some o -> h'.get? b = some o) :
    Inv (blk X (x :: M') scope (yh3 X.env scope.names []) s.heap.objs.size s H fp) [] (yer ix st) H { s with heap := h', toks := t' } := by
  have sub : ∀ n c, (yh3 X.env scope.names []).lookup n = some c -> X.env.cells.lookup n = some c := fun n c e => zy2 X.env scope.names [] n c (fun _ _ q => by simp at q) e
  have cellLt : ∀ n c, X.env.cells.lookup n = some c -> c < s.heap.objs.size := fun n c e => by obtain ⟨v, z⟩ := I.cell n c e; exact z.lt
  have fresh : H s.heap.objs.size = none := I.hok.fresh (Nat.le_refl _)
  refine ⟨⟨I.ok.mod, L.kind, I.ok.glob, I.ok.blt, Nat.le_refl _, fun a b c h1 h2 => I.ok.inj a b c (sub a c h1) (sub b c h2), fun a ha => ?_, fun a c h => (by cases h), I.ok.hd, I.ok.frames, .inl rfl, fun b hb => ⟨Nat.ne_of_lt (hfp b hb).2, fun a c e => ?_⟩, fun b o e => I.bs b o e, Nat.le_trans I.ok.bsz I.sz, fun b o e hb => ?_, fun b hb z => ?_, I.stack, I.stkFree⟩,
    rfl, I.bare, Un.kept hk, ⟨m, hns, fun i y v e1 e2 e3 => ?_⟩, fun a c e => ?_, fresh, fun a c e => I.freeC a c (sub a c e), fun p hp => absurd (show p ∈ ([] : List (Addr × Obj)) from hp) (by simp), I.hok.kept hk, ?_⟩
  ·
    have ha' : (scope.names.map fun (n, k) => if (k == NameKind.free && X.env.scope.kind == .function && X.env.kindOf n == some .cell) then (n, NameKind.cell) else (n, k)).lookup a = some .cell \/ (scope.names.map fun (n, k) => if (k == NameKind.free && X.env.scope.kind == .function && X.env.kindOf n == some .cell) then (n, NameKind.cell) else (n, k)).lookup a = some .free := ha
    have hf : scope.names.lookup a = some .free := by
      rcases ha' with z | z
      · obtain ⟨k0, h1, h2⟩ := zc2 z
        rcases h2 with h2 | ⟨h2, _⟩
        · subst h2; exact absurd rfl (ybn L _ (zlt h1))
        · rw [h2] at h1; exact h1
      · obtain ⟨k0, h1, h2⟩ := zc2 z
        rcases h2 with h2 | ⟨_, h2⟩
        · rw [<- h2] at h1; exact h1
        · cases h2
    exact zyz X.env scope.names [] a (zlt hf) (zsq I L _ (zlt hf) rfl)
  · exact (hfp b hb).1.2.2.2.2.1 a c (sub a c e)
  · rcases (hfp b hb).1.2.2.2.1 with z | z
    · exact I.ok.noex b o e z
    · exact absurd (Nat.lt_of_lt_of_le (Heap.lt_size e) (Nat.le_trans I.ok.bsz z)) (Nat.lt_irrefl _)
  · rcases List.mem_cons.mp (I.stkSub b z) with q | q
    · exact (hfp b hb).1.2.1 q
    · exact (hfp b hb).1.2.2.1 q
  ·
    cases i with
    | zero => simp [yer] at e2
    | succ j =>
      have e1' : M'[j]? = some y := e1
      have e2' : (ix.map fun i => (st[i]?).getD none)[j]? = some (some v) := e2
      rw [List.getElem?_map] at e2'
      cases ej : ix[j]? with
      | none => rw [ej] at e2'; cases e2'
      | some i0 =>
        rw [ej] at e2'
        have e4 : (st[i0]?).getD none = some v := Option.some.inj e2'
        have e5 : st[i0]? = some (some v) := by
          cases q : st[i0]? with
          | none => rw [q] at e4; cases e4
          | some o => rw [q] at e4; exact congrArg some e4
        have e6 : X.N[i0]? = some y := by
          have z := congrArg (fun l => l[j]?) L.at_
          simp only [List.getElem?_map, ej, e1', Option.map_some] at z
          exact Option.some.inj z
        have q := List.all_eq_true.mp L.vis y (List.mem_of_getElem? e1')
        simp only [Bool.and_eq_true, Bool.or_eq_true] at q
        have kx : X.env.scope.names.lookup y = some .cell \/ X.env.scope.names.lookup y = some .free := by
          rcases q.1 with z | z
          · exact .inl (eq_of_beq z)
          · exact .inr (eq_of_beq z)
        have ky : scope.names.lookup y = some .free := eq_of_beq q.2
        obtain ⟨m0, hn0, hl0⟩ := I.loc
        obtain ⟨u, ru, lu⟩ := hl0 i0 y v e6 e5 (by rcases kx with z | z; exact .inr (.inl z); exact .inr (.inr z))
        refine ⟨u, ru, .inr ⟨zfj (env := X.env) ky, ?_⟩⟩
        rcases lu with ⟨z, _⟩ | ⟨_, c, ec, zc⟩
        · rcases kx with k | k
          · rw [show X.env.kindOf y = X.env.scope.names.lookup y from rfl, k] at z; cases z
          · rw [show X.env.kindOf y = X.env.scope.names.lookup y from rfl, k] at z; cases z
        · obtain ⟨c', hc'⟩ := zyz X.env scope.names [] y (zlt ky) (zsq I L _ (zlt ky) rfl)
          have e7 := sub y c' hc'
          rw [ec] at e7; cases e7
          obtain ⟨o, ho, hd⟩ := zc
          exact ⟨c, hc', o, hk _ _ ho, hd⟩
  · obtain ⟨v, o, ho, hd⟩ := I.cell a c (sub a c e)
    exact ⟨v, o, hk _ _ ho, hd⟩
  · simp [yer, blk]
    have z := congrArg List.length L.at_
    simpa using z
end
end L4
namespace L4
open PySem PySem.Spec PyProof.Rows L2
def nox {α : Type} (m : M α) : M α := fun σ => match m σ with
  | .ex _ _ => .bad
  | o => o
theorem yhp.bind0 {α β γ δ : Type} {T : Tb} {E E0 : XK} {R : List Addr -> Hp -> α -> γ -> Prop} {R' : List Addr -> Hp -> β -> δ -> Prop} {μ : List Addr} {H : Hp} {m : M α} {k : α -> M β} {σ : Sto} {Q : δ -> Hp -> Prop} {Q1 : γ -> Hp -> Prop}
    (h : yhp T E R' μ H (bnd (nox m) k σ) Q) (f : ∀ a σ1 μ1 g H1, m σ = .ok a σ1 -> Ext μ H μ1 H1 -> Rel T μ1 H1 σ1 -> R μ1 H1 a g -> yhp T E R' μ1 H1 (k a σ1) Q -> Q1 g H1) : yhp T E0 R μ H (m σ) Q1 := by
  unfold bnd nox at h
  cases e : m σ with
  | ok a σ1 =>
    simp only [e] at h
    exact fun μ' g H' e' r q => f a σ1 μ' g H' e e' r q (h.mono e')
  | ex x σ1 => simp only [e] at h; exact h.elim
  | bad => simp only [e] at h; exact h
def ya1 (nx : Src) (n : Nat) (tg : D -> Ev -> Option Ev) (fi : Ev -> M Bool) (fe : Ev -> M D) : Nat -> Nat -> Ev -> M Unit
  | 0, _, _ => bad
  | k + 1, i, ρ => fun σ => match nx.nx i σ with
    | none => .bad
    | some none => .ok () σ
    | some (some d) => match tg d ρ with
      | none => .bad
      | some ρ1 => bnd (nox (fi ρ1)) (fun c => if c = true then bnd (nox (fe ρ1)) fun y => bnd (zvn (.ref n) [y]) fun _ => ya1 nx n tg fi fe k (i + 1) ρ1 else ya1 nx n tg fi fe k (i + 1) ρ1) σ
def lcK (tg : D -> Ev -> Option Ev) (fi : Ev -> M Bool) (fe : Ev -> M D) (ρ : Ev) (nx : Src) : M D := fun σ =>
  bnd (ya1 nx σ.length tg fi fe 1001 0 ρ) (fun _ => ret (.ref σ.length)) (σ ++ [.lst []])
def eLC (src : Ev -> M Src) (ix : List Nat) (tg : D -> Ev -> Option Ev) (fi : Ev -> M Bool) (fe : Ev -> M D) : Ev -> M D := fun ρ => bnd (src ρ) (lcK tg fi fe (yeq ix ρ))
def FIf (T : Tb) (X : Cx) (ifs : List Expr) (f : Ev -> M Bool) : Prop :=
  ∀ (pins : List (Addr × Obj)) (s : Shared) (st : St) (H : Hp) (Q : Bool -> Hp -> Prop), Inv X pins st H s -> tT T X f st H Q ->
    wpAny (model X.prog X.w) X.A (forIn ifs true fun c r => if r = true then do let ok <- isTrue c X.env (eval c X.env); pure (ForInStep.yield ok) else pure (ForInStep.yield r)) (TP X pins st Q) X.xe s
def yeo : Ev -> M Bool := fun _ => ret true
section
variable {T : Tb} {X : Cx}
theorem ztr : FIf T X [] yeo := by
  intro pins s st H Q I h
  obtain ⟨μ, ρ, σ, hE, hr, hp⟩ := h
  exact wpAny_tests_nil ⟨H, I, yhp.here hp hr rfl⟩
theorem zya {fs ex : List Addr} {H H' : Hp} {h h1 h2 : Heap} {C : Addr} (u : Un fs ex H H' h h1) (hs : Heap.SameBut C h1 h2) (hC : h.objs.size <= C) : Un fs ex H H' h h2 := by
  have ne : ∀ b o, h.get? b = some o -> b ≠ C := fun b o e => Nat.ne_of_lt (Nat.lt_of_lt_of_le (Heap.lt_size e) hC)
  refine ⟨fun b o e n hb hx => (hs.2 b (ne b o e)).trans (u.keep b o e n hb hx), fun b o e n hb hx => ?_, u.free, fun b o e hx => ?_, u.tups, u.frzs, u.tbls⟩
  · obtain ⟨sl, q⟩ := u.slot b o e n hb hx
    exact ⟨sl, (hs.2 b (ne b o e)).trans q⟩
  · obtain ⟨o', q⟩ := u.there b o e hx
    exact ⟨o', (hs.2 b (ne b o e)).trans q⟩
theorem zo5 {P : Program} {w : World} {H : Hp} {h1 h2 : Heap} {C : Addr} (ok : HOk P w H h1) (hs : Heap.SameBut C h1 h2) (hC : H C = none) : HOk P w H h2 := fun b ob e => by
  refine (ok b ob e).stay (fun c w' hc q => (hs.2 c ?_).trans q) (fun _ q => q) fun _ _ q => q
  rintro rfl
  rcases hc with rfl | hc
  · rw [hC] at e; cases e
  · rw [hC] at hc; cases hc
theorem zr6 {E : XK} {μ : List Addr} {H : Hp} {σ : Sto} {n : Nat} {a : Addr} {y : D} {v : V} {Q : VK} (r : Rel T μ H σ) (hn : μ[n]? = some a) (hy : Rep T μ H y v) (h : yhp T E (Rep T) μ H (zvn (.ref n) [y] σ) Q) : zwt (.ref a) [v] H Q :=
  zjw E μ H σ (.ref n) [y] (.ref a) [v] Q r (by rw [Rep]; exact ⟨a, rfl, hn⟩) (yhu.cons hy yhu.nil) h
theorem zkg {α β : Type} {m m' : M α} {k : α -> M β} {σ : Sto} (h : m σ = m' σ) : bnd m k σ = bnd m' k σ := by unfold bnd; rw [h]
theorem zkf {α β γ : Type} {m : M α} {k : α -> M β} {l : β -> M γ} : bnd (bnd m k) l = bnd m fun a => bnd (k a) l := by
  funext σ; unfold bnd; cases m σ <;> rfl
theorem zut {E : XK} {elt iter tgt : Expr} {ifs : List Expr} {scope : Scope} {pos : Pos} {x : Str} {M' : List Str} {ix : List Nat} {tg : D -> Ev -> Option Ev} {fi : Ev -> M Bool} {fe : Ev -> M D}
    {pins : List (Addr × Obj)} {st : St} {H3 : Hp} {s3 : Shared} {h₁ : Heap} {t' : Nat} {m : Str -> Option Value} {fp : List Addr} {it D0 : Addr} {tn : Nat -> Heap -> Prop} {J : It} {nx : Src} {μ3 : List Addr} {σ3 : Sto} {ρ : Ev} {n : Nat} {Q : VK}
    (hc : X.calm = true) (L : LcOk X x M' ix scope)
    (htg : ∀ cl C s₀ H₀ ex, FG T (blk X (x :: M') scope cl C s₀ H₀ ex) tgt tg)
    (hif : ∀ cl C s₀ H₀ ex, FIf T (blk X (x :: M') scope cl C s₀ H₀ ex) ifs fi)
    (helt : ∀ cl C s₀ H₀ ex, FE T (blk X (x :: M') scope cl C s₀ H₀ ex) elt fe)
    (I3 : Inv X pins st H3 s3) (hfp : ∀ b ∈ fp, yhn X pins H3 b /\ b < s3.heap.objs.size) (hns : h₁.Ns s3.heap.objs.size m) (kp : ∀ b o, s3.heap.get? b = some o -> h₁.get? b = some o)
    (TT : Turn X.prog X.w X.K tgt J fp it tn) (hst4 : tn 0 h₁) (so : yei T μ3 H3 nx J) (hE : yhl T μ3 H3 ρ st) (r3 : Rel T μ3 H3 σ3) (hn : μ3[n]? = some D0)
    (p3 : yhp T E (Rep T) μ3 H3 (bnd (ya1 nx n tg fi fe 1001 0 (yeq ix ρ)) (fun _ => ret (.ref n)) σ3) Q) {RR : Result -> Shared -> Prop}
    (fin : ∀ (s6 : Shared) (H' : Hp) (m6 : Str -> Option Value), s6.heap.Ns s3.heap.objs.size m6 -> H' s3.heap.objs.size = none -> Un (frs X.stack) fp H3 H' s3.heap s6.heap -> s6.os = s3.os -> HOk X.prog X.w H' s6.heap -> AllBare s6.gens -> Q (.ref D0) H' -> RR (.ok .next) s6) :
    codeAny (model X.prog X.w) X.A (.compStart (.ListComp elt [⟨tgt, iter, ifs, 0⟩] scope pos) 0 (.ref it) (.ref D0) (compEnvC scope (yh3 X.env scope.names []) s3.heap.objs.size X.env))
      RR { s3 with heap := h₁, toks := t' } := by
  have I4 := zkd (h' := h₁) (t' := t') I3 L hfp hns kp
  let Y : Cx := blk X (x :: M') scope (yh3 X.env scope.names []) s3.heap.objs.size s3 H3 fp
  have stat : ∀ {H' : Hp}, (∀ b ∈ fp, H' b = none) -> ∀ b ∈ fp, yhn Y [] H' b := fun {H'} hn b hb => ⟨hn b hb, (I4.ok.exf b hb).1, I4.ok.exfs b hb, .inl hb, (I4.ok.exf b hb).2, fun p hp => absurd (show p ∈ ([] : List (Addr × Obj)) from hp) (by simp)⟩
  have yin : codeAny (model X.prog X.w) X.A (.compLoop (.ListComp elt [⟨tgt, iter, ifs, 0⟩] scope pos) 0 (.ref it) (.ref D0) Y.env) RR { s3 with heap := h₁, toks := t' } := by
    refine codeAny_loop rfl (fun k s' => ∃ i μ' H' σ' ρ' st', Inv Y [] st' H' s' /\ tn i s'.heap /\ (∀ b ∈ fp, H' b = none) /\ Ext μ3 H3 μ' H' /\ yhl T μ' H' ρ' st' /\ Rel T μ' H' σ' /\
      yhp T E (Rep T) μ' H' (bnd (ya1 nx n tg fi fe k i ρ') (fun _ => ret (.ref n)) σ') Q) ?_ 1001 ⟨0, μ3, H3, σ3, yeq ix ρ, yer ix st, I4, hst4, fun b hb => (hfp b hb).1.1, Ext.refl _ _, zsg ix hE, r3, p3⟩
    rintro k s' ⟨i, μ', H', σ', ρ', st', I', tn', fr', ex', hE', r', p'⟩
    show wpAny _ X.A ((compTurn (.ListComp elt [⟨tgt, iter, ifs, 0⟩] scope pos) 0 (.ref it) (.ref D0) Y.env).onRaise (fun x => do noteFrame x Y.env; theTreesLotGoes x)) _ _ s'
    refine wpAny_noted ?_
    rw [compTurn_list]
    refine wpAny_mono (E := fun _ _ => False) ?_ (fun _ _ z => z) (fun _ _ z => z.elim)
    refine wpAny_bind (wpAny_standAt ?_)
    cases k with
    | zero => exact p'.elim
    | succ k =>
      have so' := so μ' H' σ' i ex' r'
      cases en : nx.nx i σ' with
      | none =>
        have e1 : ya1 nx n tg fi fe (k + 1) i ρ' σ' = .bad := by unfold ya1; simp only [en]
        rw [zkg (m' := bad) e1] at p'
        exact p'.elim
      | some od =>
        rw [en] at so'
        cases od with
        | none =>
          have e1 : ya1 nx n tg fi fe (k + 1) i ρ' σ' = .ok () σ' := by unfold ya1; simp only [en]
          rw [zkg (m' := ret ()) e1] at p'
          refine wpAny_bind (thn (TT.done Y rfl rfl rfl hc i [] s' st' H' (fun _ _ => False) I' (stat fr') tn' so') fun r s6 ⟨er, I6⟩ => ?_)
          subst er
          refine wpAny_pure ?_
          obtain ⟨m6, hm6, _⟩ := I6.loc
          exact fin s6 H' m6 hm6 I6.free I6.base I6.os I6.hok I6.bare (yhp.here p' r' (by rw [Rep]; exact ⟨_, rfl, ex'.get hn⟩))
        | some d =>
          refine wpAny_bind (thn (TT.item Y rfl rfl rfl hc i [] s' st' H' (fun _ _ => False) I' (stat fr') tn' so'.1) fun r s6 ⟨u, er, h6⟩ => ?_)
          subst er
          refine wpAny_bind (thn h6 fun _ s7 ⟨xv, H7, I7, r7, y7, tn7, fr7⟩ => ?_)
          obtain ⟨eH, hd⟩ := so'.2 xv H7 y7
          subst eH
          cases et : tg d ρ' with
          | none =>
            have e1 : ya1 nx n tg fi fe (k + 1) i ρ' σ' = .bad := by unfold ya1; simp only [en, et]
            rw [zkg (m' := bad) e1] at p'
            exact p'.elim
          | some ρ1 =>
            have e1 : ya1 nx n tg fi fe (k + 1) i ρ' σ' = bnd (nox (fi ρ1)) (fun c => if c = true then bnd (nox (fe ρ1)) fun y => bnd (zvn (.ref n) [y]) fun _ => ya1 nx n tg fi fe k (i + 1) ρ1 else ya1 nx n tg fi fe k (i + 1) ρ1) σ' := by
              conv => lhs; unfold ya1
              simp only [en, et]
            rw [zkg e1, zkf] at p'
            have I7' := I7.pinned (stat fr7) (TT.obj _ _ tn7)
            refine wpAny_bind (thn (htg _ _ _ _ _ _ s7 st' H7 xv u (fun st8 H8 => H8 = H7 /\ yhl T μ' H7 ρ1 st8) I7' r7 ⟨μ', σ', ρ', d, ρ1, hE', r', hd, et, fun st8 hE8 => ⟨rfl, hE8⟩⟩) fun _ s8 ⟨st8, H8, I8, eH8, hE8⟩ => ?_)
            subst eH8
            refine wpAny_bind (thn (hif _ _ _ _ _ _ s8 st8 H8 (fun c H9 => ∃ μ9 σ9, Ext μ' H8 μ9 H9 /\ Rel T μ9 H9 σ9 /\ yhp T E (Rep T) μ9 H9 (bnd (if c = true then bnd (nox (fe ρ1)) fun y => bnd (zvn (.ref n) [y]) fun _ => ya1 nx n tg fi fe k (i + 1) ρ1 else ya1 nx n tg fi fe k (i + 1) ρ1) (fun _ => ret (.ref n)) σ9) Q) I8
              ⟨μ', ρ1, σ', hE8, r', p'.bind0 fun c σ9 μ9 c' H9 _ e9 r9 q9 p9 => by cases q9; exact ⟨μ9, σ9, e9, r9, p9⟩⟩) fun c s9 ⟨H9, I9, μ9, σ9, e9, r9, p9⟩ => ?_)
            have again : ∀ {s11 : Shared} {H11 : Hp} {μ11 : List Addr} {σ11 : Sto}, Inv Y ([] ++ ycv fp s7.heap) st8 H11 s11 -> Ext μ' H8 μ11 H11 -> Rel T μ11 H11 σ11 -> yhp T E (Rep T) μ11 H11 (bnd (ya1 nx n tg fi fe k (i + 1) ρ1) (fun _ => ret (.ref n)) σ11) Q ->
                ∃ m, m < k + 1 /\ ∃ i μ' H' σ' ρ' st', Inv Y [] st' H' s11 /\ tn i s11.heap /\ (∀ b ∈ fp, H' b = none) /\ Ext μ3 H3 μ' H' /\ yhl T μ' H' ρ' st' /\ Rel T μ' H' σ' /\ yhp T E (Rep T) μ' H' (bnd (ya1 nx n tg fi fe m i ρ') (fun _ => ret (.ref n)) σ') Q := by
              intro s11 H11 μ11 σ11 I11 e11 r11 p11
              refine ⟨k, Nat.lt_succ_self _, i + 1, μ11, H11, σ11, ρ1, st8, I11.unpinned, TT.keep _ _ _ tn7 (fun b hb o e => (I11.pin (b, o) (List.mem_append_right _ (List.mem_append_right _ (ziy hb e)))).1), fun b hb => ?_, ex'.trans e11, hE8.mono e11, r11, p11⟩
              obtain ⟨o, e, _⟩ := TT.obj _ _ tn7 b hb
              exact (I11.pin (b, o) (List.mem_append_right _ (List.mem_append_right _ (ziy hb e)))).2.1
            cases c with
            | false =>
              rw [if_neg Bool.false_ne_true] at p9
              exact wpAny_pure ⟨rfl, again I9 e9 r9 p9⟩
            | true =>
              rw [if_pos rfl, zkf] at p9
              refine wpAny_bind (wpAny_bind (thn (helt _ _ _ _ _ _ s9 st8 H9 (fun v H10 => ∃ y μ10 σ10, Ext μ' H8 μ10 H10 /\ Rel T μ10 H10 σ10 /\ Rep T μ10 H10 y v /\ yhp T E (Rep T) μ10 H10 (bnd (zvn (.ref n) [y]) (fun _ => bnd (ya1 nx n tg fi fe k (i + 1) ρ1) (fun _ => ret (.ref n))) σ10) Q) I9
                ⟨μ9, ρ1, σ9, hE8.mono e9, r9, p9.bind0 fun y σ10 μ10 v H10 _ e10 r10 q10 p10 => ⟨y, μ10, σ10, e9.trans e10, r10, q10, by rw [zkf] at p10; exact p10⟩⟩) fun w s10 ⟨v, H10, I10, rw10, y, μ10, σ10, e10, r10, q10, p10⟩ => ?_))
              have happ := zr6 (Q := fun _ H11 => ∃ μ11 σ11, Ext μ' H8 μ11 H11 /\ Rel T μ11 H11 σ11 /\ yhp T E (Rep T) μ11 H11 (bnd (ya1 nx n tg fi fe k (i + 1) ρ1) (fun _ => ret (.ref n)) σ11) Q) r10 ((ex'.trans e10).get hn) q10
                (p10.bind fun _ σ11 μ11 v11 H11 _ e11 r11 q11 p11 => ⟨μ11, σ11, e10.trans e11, r11, p11⟩)
              refine wpAny_bind (thn (zlx (X := Y) _ s10 st8 H10 (.ref D0) [v] (.ref D0) [w] _ I10 rfl (.cons rw10 .nil) happ) fun _ s11 ⟨v11, H11, I11, _, μ11, σ11, e11, r11, p11⟩ => ?_)
              exact wpAny_pure (wpAny_pure ⟨rfl, again I11 e11 r11 p11⟩)
  exact codeAny_compStart_list yin (TT.self X.A 0 _ _ _ hst4 yin)
theorem yfa {elt iter tgt : Expr} {ifs : List Expr} {scope : Scope} {pos : Pos} {x : Str} {M' : List Str} {ix : List Nat} {src : Ev -> M Src} {tg : D -> Ev -> Option Ev} {fi : Ev -> M Bool} {fe : Ev -> M D}
    (hc : X.calm = true) (L : LcOk X x M' ix scope) (hsrc : FI T X tgt iter src)
    (htg : ∀ cl C s₀ H₀ ex, FG T (blk X (x :: M') scope cl C s₀ H₀ ex) tgt tg)
    (hif : ∀ cl C s₀ H₀ ex, FIf T (blk X (x :: M') scope cl C s₀ H₀ ex) ifs fi)
    (helt : ∀ cl C s₀ H₀ ex, FE T (blk X (x :: M') scope cl C s₀ H₀ ex) elt fe)
    (hs : ∀ y, foldedSetIterable iter X.env y = pure y := by intro _; rfl) :
    FE T X (.ListComp elt [⟨tgt, iter, ifs, 0⟩] scope pos) (eLC src ix tg fi fe) := by
  intro pins s st H Q I h
  obtain ⟨μ, ρ, σ, hE, hr, hp⟩ := h
  rw [eval_ListComp]
  refine wpAny_comprehension_free (use := none) rfl hs (zh7 X.env scope (zsq I L)) L.kind (fun y hy e => ?_) ?_
  · have q := List.all_eq_true.mp L.names y hy
    rw [e] at q
    simp only [beq_self_eq_true, Bool.not_true, Bool.false_or] at q
    exact eq_of_beq q
  have h1 := hsrc pins s st H (fun J H2 => ∃ nx μ2 σ2, Ext μ H μ2 H2 /\ Rel T μ2 H2 σ2 /\ yei T μ2 H2 nx J /\ yhp T (XE X st) (Rep T) μ2 H2 (bnd (ya1 nx σ2.length tg fi fe 1001 0 (yeq ix ρ)) (fun _ => ret (.ref σ2.length)) (σ2 ++ [Ob.lst []])) Q) I
    ⟨μ, ρ, σ, hE, hr, hp.bind fun nx σ1 μ1 J H1 _ e1 r1 q1 p1 => ⟨nx, μ1, σ1, e1, r1, q1, p1⟩⟩
  refine thn h1 fun v s1 h2 => thn h2 fun itv s2 h3 => ?_
  obtain ⟨it, fp, tn, J, H2, rfl, I2, TT, st2, f2, nx, μ2, σ2, ex2, r2, so, p2⟩ := h3
  refine wpAny_newObj_type (wpAny_newFunctionEnv (ybn L) (by intro y hy; simp at hy) (fun h₁ hns₁ hsb₁ => ?_) L.kind)
  have I3 := I2.lnew (ys := []) (its := []) (t' := s2.toks) .nil (by simp)
  have fr2 : H2 s2.heap.objs.size = none := I2.hok.fresh (Nat.le_refl _)
  have r3 := r2.push (p := s2.heap.objs.size) (o := .lst []) (ob := .lst []) fr2 ⟨[], upd_same, yhu.nil⟩
  have ex3 : Ext μ2 H2 (μ2 ++ [s2.heap.objs.size]) (upd H2 s2.heap.objs.size (.lst [])) := zn8 fr2
  have hsz : s2.heap.objs.size < (s2.heap.push { cls := .type "list", data := .seq ([] : List Value).toArray }).objs.size := by rw [Heap.size_push]; exact Nat.lt_succ_self _
  have kp : ∀ b o, (s2.heap.push { cls := .type "list", data := .seq ([] : List Value).toArray }).get? b = some o -> h₁.get? b = some o := fun b o e => hsb₁.extBut b o (Nat.ne_of_lt (Heap.lt_size e)) (Heap.get?_push_of_some _ e)
  have hfp : ∀ b ∈ fp, yhn X pins (upd H2 s2.heap.objs.size (.lst [])) b /\ b < (s2.heap.push { cls := .type "list", data := .seq ([] : List Value).toArray }).objs.size := fun b hb => by
    obtain ⟨o, e, _⟩ := TT.obj 0 _ st2 b hb
    have lt := Heap.lt_size e
    exact ⟨⟨by rw [upd_ne (Nat.ne_of_lt lt)]; exact (f2 b hb).1, (f2 b hb).2⟩, Nat.lt_trans lt hsz⟩
  refine zut (s3 := { s2 with heap := s2.heap.push { cls := .type "list", data := .seq ([] : List Value).toArray }, toks := s2.toks }) (n := σ2.length) (D0 := s2.heap.objs.size) hc L htg hif helt I3 hfp hns₁ kp TT (TT.keep 0 _ _ st2 fun b hb o e => kp b o (Heap.get?_push_of_some _ e))
    (fun μ H σ i ex r => so μ H σ i (ex3.trans ex) r) ((hE.mono ex2).mono ex3) r3 (by rw [<- r2.len]; simp) (p2.mono ex3) (fun s6 H' m6 hm6 hC' hu0 hos hok6 hb6 hq => ⟨m6, hm6, fun h7 hs7 => ?_⟩)
  have hu := zya hu0 hs7 (Nat.le_refl _)
  have I7 := L2.Inv.call' (s' := { s6 with heap := h7 }) (ch := fp) I3 hos hu (zo5 hok6 hs7 hC') hb6 (fun b hb => ⟨(hfp b hb).1.2.2.2.1, (hfp b hb).1.2.1, (hfp b hb).1.2.2.2.2.1, (hfp b hb).1.2.2.2.2.2⟩)
  exact ⟨.ref s2.heap.objs.size, H', I7, rfl, hq⟩
end
end L4
namespace L4
open PySem PySem.Spec PyProof.Rows L2
def yf8 (x y : D) : M D := fun σ => match yio σ x, yio σ y with
  | some xs, some ys => if xs.length + ys.length <= cap then .ok (.lst (xs ++ ys)) σ else .bad
  | _, _ => .bad
def yis (x y : D) : M D := match x, y with
  | .int i, .int j => ret (.int (i + j))
  | .tup xs, .tup ys => if xs.length + ys.length <= cap then ret (.tup (xs ++ ys)) else bad
  | .str a, .str b => if a.length + b.length <= 100000 then ret (.str (a ++ b)) else bad
  | x, y => yf8 x y
theorem zm2 {n : Nat} (h : n <= 100000) : n <= sizeLine := Nat.le_trans h (by decide)
section
variable {T : Tb} {X : Cx} {a b c : Expr} {fa fb fc : Ev -> M D} {pos : Pos}
theorem znl {prog : Program} {w : World} {A : Around} {F : Value -> Shared -> Prop} {s : Shared} {t b : Addr} {ws : List Value} {Q : Value -> Shared -> Prop} (ht : IsTup s.heap t (#[] : Array Value)) (hb : IsTup s.heap b ws.toArray) (h1 : Q (.ref b) s) : wpAny (model prog w) A (binaryOp .Add (.ref t) (.ref b)) Q F s := by
  obtain ⟨⟨cls, dd, data, sl⟩, ho, hc, n, hd⟩ := id ht
  obtain ⟨⟨cls2, dd2, data2, sl2⟩, ho2, hc2, n2, hd2⟩ := id hb
  simp only at hc hd hc2 hd2
  subst hc hd hc2 hd2
  exact concat_meets ⟨_, ho, rfl⟩ ⟨_, ho2, rfl⟩ noFill_tuple_add seq_tuple_add PySem.F.slot_tuple_add PySem.F.entry_tuple_add (PySem.F.args_tuple_add_2 _ _)
    (tuple_addW0 t b #[] ws.toArray n n2 dd dd2 sl sl2 rfl) ⟨ho, ho2, h1⟩
theorem zna {E : XK} {μ : List Addr} {H : Hp} {σ : Sto} {x y : D} {v u : V} {v' u' : Value} {Q : VK} {pins : List (Addr × Obj)} {s : Shared} {st : St} (I : Inv X pins st H s) (rv : yhr v v') (ru : yhr u u') (r : Rel T μ H σ) (hx : Rep T μ H x v) (hy : Rep T μ H y u) (hp : yhp T E (Rep T) μ H (yf8 x y σ) Q) :
    wpAny (model X.prog X.w) X.A (binaryOp .Add v' u') (EP X pins st Q) X.xe s := by
  unfold yf8 at hp
  cases e1 : yio σ x with
  | none => rw [e1] at hp; exact hp.elim
  | some xs =>
    cases e2 : yio σ y with
    | none => rw [e1, e2] at hp; exact hp.elim
    | some ys =>
      rw [e1, e2] at hp
      dsimp only at hp
      by_cases hc : xs.length + ys.length <= cap
      · rw [if_pos hc] at hp
        obtain ⟨p, vs, rfl, h1, h2⟩ := r.ls hx e1
        obtain ⟨q, ws, rfl, h3, h4⟩ := r.ls hy e2
        exact yb6 pins s st H _ _ v' u' Q I rv ru ⟨p, q, vs, ws, rfl, rfl, h1, h3, by rw [<- h2.length, <- h4.length]; exact zyu hc, fun l hl => ybm hp r (yhu.append h2 h4) hl⟩
      · rw [if_neg hc] at hp; exact hp.elim
theorem zv1 (hK : T.K = X.K) : OpR X (binaryOp .Add) (rD T yis) := by
  intro pins s st H v u v' u' Q I rv ru h
  obtain ⟨E, μ, σ, x, y, r, hx, hy, hp⟩ := h
  cases x with
  | int i =>
    cases y with
    | int j => exact yb4 pins s st H v u v' u' Q I rv ru ⟨i, j, yap hx, yap hy, yhp.here hp r (by rw [Rep])⟩
    | _ => exact zna I rv ru r hx hy hp
  | str a =>
    cases y with
    | str b =>
      unfold yis at hp
      dsimp only at hp
      by_cases hc : a.length + b.length <= 100000
      · rw [if_pos hc] at hp
        exact zi7 pins s st H v u v' u' Q I rv ru ⟨a, b, by simpa [Rep] using hx, by simpa [Rep] using hy, zm2 hc, yhp.here hp r (by rw [Rep])⟩
      · rw [if_neg hc] at hp; exact hp.elim
    | _ => exact zna I rv ru r hx hy hp
  | tup xs =>
    cases y with
    | tup ys =>
      unfold yis at hp
      dsimp only at hp
      by_cases hc : xs.length + ys.length <= cap
      · rw [if_pos hc] at hp
        have hx0 := hx
        have hy0 := hy
        rw [Rep] at hx hy
        obtain ⟨p, vs, rfl, h1, h2⟩ := hx
        obtain ⟨q, ws, rfl, h3, h4⟩ := hy
        cases vs with
        | nil =>
          have e0 : xs = [] := by have := h2.length; simpa using this
          subst e0
          cases rv; cases ru
          obtain ⟨its, q1, t1, _⟩ := L2.Inv.tuple I (SqT.of (K := X.K) h1)
          obtain ⟨its2, q2, t2, _⟩ := L2.Inv.tuple I (SqT.of (K := X.K) h3)
          cases q1
          exact znl t1 t2 ⟨.ref q, H, I, rfl, yhp.here hp r (by simpa using hy0)⟩
        | cons v0 vr =>
          refine zv2 pins s st H _ _ v' u' Q I rv ru ⟨p, q, _, ws, rfl, rfl, SqT.of h1, SqT.of h3, by simp, ?_, fun e => ?_, fun e l hl => ?_⟩
          · rw [<- h2.length, <- h4.length]; exact zyu hc
          · subst e
            have e0 : ys = [] := by have := h4.length; simpa using this
            subst e0
            exact yhp.here hp r (by simpa using hx0)
          · exact zvj hp r (yhu.append h2 h4) hl
      · rw [if_neg hc] at hp; exact hp.elim
    | _ => exact zna I rv ru r hx hy hp
  | _ => exact zna I rv ru r hx hy hp
def zyx (o' : D -> D -> M D) (c : M D) (y : D) : D -> M D := yhb (ifK (bnd c (o' y)) (ret (.bl false)))
def zyy (o o' : D -> D -> M D) (c : M D) (x y : D) : M D := bnd (o x y) (zyx o' c y)
def zyw (o o' : D -> D -> M D) (b c : M D) (x : D) : M D := bnd b (zyy o o' c x)
def zy8 (o o' : D -> D -> M D) (a b c : Ev -> M D) : Ev -> M D := fun ρ => bnd (a ρ) (zyw o o' (b ρ) (c ρ))
theorem zob {op op' : CmpOp} {r r' : R2} {o o' : D -> D -> M D} (ho : OpR X (compareOp op) r) (hs : yeg T r o) (ho' : OpR X (compareOp op') r') (hs' : yeg T r' o') (ha : FE T X a fa) (hb : FE T X b fb) (hc : FE T X c fc)
    (hm : lastMarks [op, op'] [b, c] = false := by with_unfolding_all rfl) : FE T X (.Compare a [op, op'] [b, c] pos) (zy8 o o' fa fb fc) := by
  intro pins s st H Q I h
  refine zqe ho ho' ha hb hc hm pins s st H Q I ?_
  obtain ⟨μ, ρ, σ, hE, hr, hp⟩ := h
  refine ⟨μ, ρ, σ, hE, hr, hp.bind fun x σ1 μ1 v H1 _ e1 r1 q1 p1 => ⟨μ1, ρ, σ1, hE.mono e1, r1, p1.bind fun y σ2 μ2 w H2 _ e2 r2 q2 p2 => ?_⟩⟩
  refine hs _ μ2 H2 σ2 x y v w _ r2 (Rep.mono e2 _ _ q1) q2 (p2.bind fun z σ3 μ3 u H3 _ e3 r3 q3 p3 => ?_)
  obtain ⟨k, rfl, ev, p4⟩ := yd2 q3 p3
  refine ⟨k, ev, ?_⟩
  cases k with
  | true =>
    unfold ifK at p4; rw [if_pos rfl] at p4 ⊢
    exact ⟨μ3, ρ, σ3, ((hE.mono e1).mono e2).mono e3, r3, p4.bind fun z σ5 μ5 u5 H5 _ e5 r5 q5 p5 => hs' _ μ5 H5 σ5 y z w u5 Q r5 (Rep.mono e5 _ _ (Rep.mono e3 _ _ q2)) q5 p5⟩
  | false => unfold ifK at p4; rw [if_neg Bool.false_ne_true] at p4 ⊢; exact yhp.here p4 r3 (by rw [Rep])
theorem hu9 {k : Nat} {A : Around} (hr : Room k A) : A.units + 9 < cLine := by have := hr.un; omega
end
end L4
namespace L4
open PySem PySem.Spec PyProof.Rows L2
def yeb (K : PySem.W.Frag) (mg : Str -> Option Value) (x : Str) (st : Stmt) (ps : List Str) : Prop :=
  ∃ f fd, mg x = some (.ref f) /\ Fun K x x st f fd /\ ∀ us : List Value, us.length = ps.length -> bindArgs fd ⟨us, []⟩ = pure (ps.zip us)
def OkF (T : Tb) (P : Program) (w : World) (mg : Str -> Option Value) (base : Heap) (k : Nat) (x : Str) (ps : List Str) (fn : List D -> M D) : Prop :=
  ∃ f fd, mg x = some (.ref f) /\ PySem.W.keepIn T.K (.ref f) = true /\ (∀ us : List Value, us.length = ps.length -> bindArgs fd ⟨us, []⟩ = pure (ps.zip us)) /\ FnOk P w T.K mg base (CXE P w) k f fd ps (spF T ps.length fn)
section
variable {T : Tb} {X : Cx}
theorem zoa {k : Nat} {ps : List Str} {fn : List D -> M D} {x : Str} {p pos : Pos} {e : Expr} {es : List Expr} {fs : Ev -> M (List D)} (h : OkF T X.prog X.w X.mg X.base k x ps fn) (hK : T.K = X.K) (hr : Room k X.A) (hg : Gl X x)
    (ha : FA T X (e :: es) fs) (hdb : (x == ("__debug__" : Str)) = false := by decide) (he : starEach (e :: es) X.env = (false, eval e X.env) :: starEach es X.env := by rfl) (hpl : (backTo pos (starEach es X.env)).any (·.1) = false := by rfl) :
    FE T X (.Call (.Name x p) (e :: es) [] pos) (eFn ps.length fn [] fs) := by
  obtain ⟨f, fd, hm, hk, hb, hF⟩ := h
  rw [hK] at hk hF
  exact zth (dds := []) (dvs := []) hF hr hg hm hk (.all hb) .nil (fun _ _ => yhu.nil) ha hdb he hpl
variable {P : Program} {w : World} {K : PySem.W.Frag} {mg : Str -> Option Value} {base : Heap} {ca : Nat -> Addr}
theorem ygh {k : Nat} {x : Str} {st : Stmt} {ps N : List Str} {g : Ev -> M Fl} (h : yeb K mg x st ps) (S : FnScope N ps (znx st))
    (hb : ∀ (f : Addr) (cdv : Value) (A : Around) (outer : List Env) (s : Shared) (H : Hp) (E : XK), Room k (A.deeper (envOfC x (znx st) s.heap.objs.size f cdv)) -> FSs ⟨K, ca⟩ (yh6 (CXE P w) P w K mg base N x (znx st) f cdv A outer s H E) (zs2 st) g) :
    OkF ⟨K, ca⟩ P w mg base (k + 1) x ps (run N.length g) := by
  obtain ⟨f, fd, hm, F, hbd⟩ := h
  obtain ⟨oc, od, kV, doc, pm, an, cdv, ct, osl, rfl, lk, hcd⟩ := F.ex
  exact ⟨f, _, hm, F.kp, hbd, fok lk hcd S (hb f cdv)⟩
theorem OkF.frz {k : Nat} {x : Str} {ps : List Str} {fn : List D -> M D} (h : OkF T P w mg base k x ps fn) : OkF T P w mg base k x ps (fun ds => L4.frz (fn ds)) := by
  obtain ⟨f, fd, h1, h2, h3, h4⟩ := h
  exact ⟨f, fd, h1, h2, h3, ztv h4⟩
theorem mkF {h : Heap} {x : Str} {st : Stmt} {ps : List Str} {f : Addr} {oc : Value} {od an : Option Addr} {osl : Array (Option Value)} {kV doc pm cdv ct : Value} (X : K.In h) (G : h.Ns mainGlobals mg)
    (hb : ∀ (kV doc pm : Value) (an : Option Addr) (cdv ct : Value) (us : List Value), us.length = ps.length -> bindArgs (PySem.W.fnOf x x (zs1 st) (zs2 st) (znx st) .none kV doc pm an cdv ct) ⟨us, []⟩ = pure (ps.zip us))
    (a : PySem.W.nsIn K mainGlobals x = some (some (.ref f))) (l : K.lookup f = some ⟨oc, od, .func (PySem.W.fnOf x x (zs1 st) (zs2 st) (znx st) .none kV doc pm an cdv ct), osl⟩)
    (c : PySem.W.codeIn K cdv x = true) (k : PySem.W.keepIn K (.ref f) = true) : yeb K mg x st ps :=
  ⟨f, _, PySem.W.mg_of X G a, yag l c k, hb kV doc pm an cdv ct⟩
theorem mkI {h : Heap} {x : Str} {i : Int} {t : Tok} (X : K.In h) (G : h.Ns mainGlobals mg) (a : PySem.W.nsIn K mainGlobals x = some (some (.int i t))) : ∃ t, mg x = some (.int i t) := ⟨t, PySem.W.mg_of X G a⟩
end
theorem ydh {K : PySem.W.Frag} {H : Hp} {a : Addr} {ns : List Int} (hO : yho H) (h : SqL K H a (ns.map V.int)) : Scr K H a ns := by
  rcases h with (h | ⟨o, h⟩) | h
  · rcases hO a with z | ⟨o, xs, z⟩
    · rw [z] at h; cases h
    · rw [z] at h; cases h
  · exact .inl ⟨o, h⟩
  · exact .inr h
def sp0 (K : PySem.W.Frag) : Sp := fun vs H Q E => ∃ (a : Addr) (ns : List Int), vs = [.ref a] /\ ns.length <= 63 /\ yho H /\ SqL K H a (ns.map V.int) /\ ∀ v H', v = .bl true -> Q v H'
theorem ydt {K : PySem.W.Frag} {ca : Nat -> Addr} {fn : List D -> M D} (tr : ∀ ns : List Int, ns.length <= 63 -> ∃ σ, fn [.scr ns] [] = .ok (.bl true) σ) {vs : List V} {H : Hp} {Q : VK} {E : XK} (h : sp0 K vs H Q E) : spF ⟨K, ca⟩ 1 fn vs H Q E := by
  obtain ⟨a, ns, rfl, hl, hO, hS, hq⟩ := h
  obtain ⟨σ, e⟩ := tr ns hl
  refine ⟨[], [], [.scr ns], yhu.cons (by rw [Rep]; exact ⟨a, rfl, ydh hO hS⟩) yhu.nil, rfl, ⟨rfl, List.nodup_nil, fun n o q => by simp at q⟩, ?_⟩
  rw [e]
  intro μ' v H' _ _ r
  rw [Rep] at r
  exact hq v H' r
def OkL (T : Tb) (P : Program) (w : World) (mg : Str -> Option Value) (k : Nat) (x : Str) (ps : List Str) (fn : List D -> M D) : Prop :=
  ∃ f fd, mg x = some (.ref f) /\ (∀ us : List Value, us.length = ps.length -> bindArgs fd ⟨us, []⟩ = pure (ps.zip us)) /\ ∀ base : Heap, FnOk P w T.K mg base (CXE P w) k f fd ps (spF T ps.length fn)
theorem yb2 {P : Program} {w : World} {K : PySem.W.Frag} {mg : Str -> Option Value} {ca : Nat -> Addr} {k : Nat} {x : Str} {st : Stmt} {ps N : List Str} {g : Ev -> M Fl} (h : yeb K mg x st ps) (S : FnScope N ps (znx st))
    (hb : ∀ (base : Heap) (f : Addr) (cdv : Value) (A : Around) (outer : List Env) (s : Shared) (H : Hp) (E : XK), Room k (A.deeper (envOfC x (znx st) s.heap.objs.size f cdv)) -> FSs ⟨K, ca⟩ (yh6 (CXE P w) P w K mg base N x (znx st) f cdv A outer s H E) (zs2 st) g) :
    OkL ⟨K, ca⟩ P w mg (k + 1) x ps (run N.length g) := by
  obtain ⟨f, fd, hm, F, hbd⟩ := h
  obtain ⟨oc, od, kV, doc, pm, an, cdv, ct, osl, rfl, lk, hcd⟩ := F.ex
  exact ⟨f, _, hm, hbd, fun base => fok lk hcd S (hb base f cdv)⟩
theorem walkL {l : PySem.W.OpenLaw} {q : Program} {loose : List Str} {XP : (Str -> Option Value) -> Heap -> Prop} {YP : World -> Heap -> Prop} {d : DefRec} {K : Params -> PySem.W.Frag} {k : Nat} {x : Str} {fn : List D -> M D}
    (hn : l.most = some 63) (hdf : d.params.defaults = []) (hr : Room k callerA) (hY : ∀ (w : World) (h : Heap), YP w h -> (K w.params).In h)
    (F : ∀ (w : World) (mg : Str -> Option Value) (h : Heap), (K w.params).In h -> h.Ns mainGlobals mg -> ∃ ca, OkL ⟨K w.params, ca⟩ l.prog w mg k d.name [x] fn)
    (tr : ∀ ns : List Int, ns.length <= 63 -> ∃ σ, fn [.scr ns] [] = .ok (.bl true) σ) :
    PySem.W.WalkO q loose XP YP l.row.toRowW d [] (fun f vs => PySem.call f vs) := by
  refine L2.zyd (n := 63) (k := k) (x := x) (CX := fun w => CXE l.prog w) (sp := fun w => sp0 (K w.params)) hn (by decide) hdf hr hY (fun w mg fa h KX G hmg => ?_) (fun w H a ns hl hO hS => ⟨a, ns, rfl, hl, hO, hS, fun _ _ e => e⟩) (fun w H s e s' z => ?_)
  · obtain ⟨ca, f0, fd0, g1, g3, g4⟩ := F w mg h KX G
    rw [hmg] at g1; cases g1
    exact ⟨fd0, fun s u => .of_eq (g3 [u] rfl), fun base hb hg => (g4 base).imp fun vs H Q E z => ydt tr z⟩
  · obtain ⟨cls, H', _, z⟩ := z
    exact z
end L4
namespace L4
open PySem PySem.Spec PyProof.Rows L2
theorem zte {K : PySem.W.Frag} {h : Heap} {C : Addr} {bmB : List Value} {newId : String} (KX : K.In h) (hq : PySem.W.excIn K C bmB newId = true) :
    ∃ bm N nm qn bs hdct sn sub ab col dd k0 k1 k2 k3 k5 mN, h.get? C = some (excClassObj nm qn C N bs bm hdct sn sub ab col dd k0 k1 k2 k3 k5 newId) /\ h.Ns N mN /\ mN "__init__" = none /\ OwnTail h bmB bm := by
  unfold PySem.W.excIn at hq
  split at hq
  · rename_i dd data sl lk
    split at hq
    · rename_i C2 bm k0 k1 k2 k3 nid k5 emro esl
      have hq1 : ((((C2 = C /\ nid = newId) /\ data.hasDel = false) /\ PySem.W.tailIn K bmB bm = true) /\ PySem.W.nsOkIn K data.ns = true) /\ PySem.W.nsIn K data.ns "__init__" = some none := by
        simpa [Bool.and_eq_true, Bool.not_eq_true'] using hq
      obtain ⟨⟨⟨⟨⟨c1, c2⟩, c3⟩, c4⟩, c5⟩, c6⟩ := hq1
      subst c1; subst c2
      obtain ⟨nm, bs, mro, ns, qn, hd, sn, sub, ab, col, del⟩ := data
      cases emro; cases c3
      obtain ⟨l⟩ := sl
      cases esl
      exact ⟨bm, ns, nm, qn, bs, hd, sn, sub, ab, col, dd, k0, k1, k2, k3, k5, _, KX _ _ lk, .of_isNs (PySem.W.isNs_of_in KX c5), PySem.W.nsMap_none_of_in KX c5 c6, PySem.W.tail_of_in KX c4⟩
    · cases hq
  · cases hq
def yc6 (c : Nat) (ρ : Ev) (ds : List D) : M Fl := if ds.length <= cap then ret (.xc ρ ⟨c⟩) else bad
def ydd (c : Nat) (fs : Ev -> M (List D)) : Ev -> M Fl := fun ρ => xs ρ (fs ρ) (yc6 c ρ)
section
variable {T : Tb} {X : Cx}
theorem zou (c : Nat) {x : Str} {B newId initId : String} {bmB : List Value} {np cpos pos : Pos} {e : Expr} {es : List Expr} {fs : Ev -> M (List D)} (FB : ExcBaseFacts B newId initId bmB) (hK : T.K = X.K) (hq : PySem.W.excIn T.K (T.ca c) bmB newId = true) (hm : X.mg x = some (.ref (T.ca c)))
    (hg : Gl X x) (hc : X.calm = true) (ha : FA T X (e :: es) fs) (hdb : (x == ("__debug__" : Str)) = false := by decide) (he : starEach (e :: es) X.env = (false, eval e X.env) :: starEach es X.env := by rfl)
    (hpl : (backTo cpos (starEach es X.env)).any (·.1) = false := by rfl) : FS T X (.Raise (some (.Call (.Name x np) (e :: es) [] cpos)) none pos) (ydd c fs) := by
  intro pins s st H D I hw
  obtain ⟨μ, ρ, σ, hE, hr, hp⟩ := hw
  rw [hK] at hq
  obtain ⟨bm, N, nm, qn, bs, hdct, sn, sub, ab, col, dd, k0, k1, k2, k3, k5, mN, hC, hN, hni, tl⟩ := zte I.ok.mod.kin hq
  have hpl' : (backTo cpos (starEach (e :: es) X.env)).any (·.1) = false := by
    rw [he]; show (false || (backTo cpos (starEach es X.env)).any (·.1)) = false; rw [hpl]; rfl
  refine wpAny_Raise_call_subT (nm := nm) (q := qn) (N := N) (bs := bs) (bm := bm) (hdct := hdct) (sn := sn) (sub := sub) (ab := ab) (col := col) (dd := dd) (k0 := k0) (k1 := k1) (k2 := k2) (k3 := k3) (k5 := k5) FB (mN := mN) (tl.hasType FB.hasBase) (I.ok.hd hc) hpl' hni (zuw I hg hm ⟨rfl, ?_⟩ hdb)
  have step := ha cpos pins s st H (fun vs H1 => vs.length <= cap /\ Thr X st (T.cv ⟨c⟩) H1) I ⟨μ, ρ, σ, hE, hr, hp.xs hE fun ds σ1 μ1 vs H1 _ e1 r1 q1 p1 => by
    unfold yc6 at p1
    by_cases hl : ds.length <= cap
    · rw [if_pos hl] at p1
      exact ⟨by rw [<- q1.length]; exact hl, yhp.here (g := Gl2.xc st (T.cv ⟨c⟩)) p1 r1 ⟨hE.mono e1, rfl⟩⟩
    · rw [if_neg hl] at p1; exact p1.elim⟩
  rw [he] at step ⊢
  refine Calls.evalArgs_plain (thn step fun us s1 ⟨vs, H1, I1, r, hl, thr⟩ => ?_)
  exact ⟨rfl, by rw [<- r.length]; exact zyu hl, I1.bk _ _ hC, hN.keeps I1.bk, tl.keeps I1.bk, fun h' ea hx => thr.made pins s1 ea h' us I1 hx⟩
end
structure Hd where
  t : Nat -> Option Bool
  nm : Option Nat
  g : Ev -> M Fl
def yj1 (i : Nat) : Fl -> M Fl
  | .nx ρ => ret (.nx (ρ.set i none))
  | .rt d => ret (.rt d)
  | .bk ρ => ret (.bk (ρ.set i none))
  | .ct ρ => ret (.ct (ρ.set i none))
  | .xc _ _ => bad
def noF : Fl -> M Fl
  | .nx ρ => ret (.nx ρ)
  | .rt d => ret (.rt d)
  | .bk ρ => ret (.bk ρ)
  | .ct ρ => ret (.ct ρ)
  | .xc _ _ => bad
def hit (h : Hd) (ρ : Ev) (x : Xn) : M Fl := match h.nm with
  | none => bnd (h.g ρ) noF
  | some i => bnd (h.g (ρ.set i (some (.exn x.cls)))) (yj1 i)
def yak (ρ : Ev) (x : Xn) : List Hd -> M Fl
  | [] => bad
  | h :: r => match h.t x.cls with
    | some true => hit h ρ x
    | some false => yak ρ x r
    | none => bad
def yjz (hs : List Hd) : Fl -> M Fl
  | .xc ρ x => yak ρ x hs
  | .nx ρ => ret (.nx ρ)
  | .rt d => ret (.rt d)
  | .bk ρ => ret (.bk ρ)
  | .ct ρ => ret (.ct ρ)
def yjr (g : Ev -> M Fl) (hs : List Hd) : Ev -> M Fl := fun ρ => bnd (g ρ) (yjz hs)
abbrev Cx.inH (X : Cx) (e : Value) : Cx := { X with A := X.A.mark (some e), calm := false, xe := fun _ _ => False }
abbrev Cx.inT (X : Cx) (pins : List (Addr × Obj)) (xe : Value -> Shared -> Prop) : Cx := { X with xe := xe, pn := X.pn ++ pins }
section
variable {T : Tb} {X : Cx} {pins : List (Addr × Obj)} {st : St} {H : Hp} {s : Shared} {e : Value} {xe : Value -> Shared -> Prop}
theorem zun (I : Inv X pins st H s) : Inv (Cx.inT X pins xe) [] st H s :=
  ⟨⟨I.ok.mod, I.ok.kind, I.ok.glob, I.ok.blt, I.ok.above, I.ok.inj, I.ok.has, I.ok.cab, I.ok.hd, I.ok.frames, I.ok.stk, I.ok.exf, I.ok.bs, I.ok.bsz, I.ok.noex, I.ok.exfs, I.ok.funs, I.ok.frf⟩, I.os, I.bare, I.base, I.loc, I.cell, I.free, I.freeC, fun p hp => I.pin p (by simpa using hp), I.hok, I.len⟩
theorem zo8 {p1 : List (Addr × Obj)} (I : Inv (Cx.inT X pins xe) p1 st H s) : Inv X pins st H s :=
  ⟨⟨I.ok.mod, I.ok.kind, I.ok.glob, I.ok.blt, I.ok.above, I.ok.inj, I.ok.has, I.ok.cab, I.ok.hd, I.ok.frames, I.ok.stk, I.ok.exf, I.ok.bs, I.ok.bsz, I.ok.noex, I.ok.exfs, I.ok.funs, I.ok.frf⟩, I.os, I.bare, I.base, I.loc, I.cell, I.free, I.freeC, fun p hp => I.pin p (List.mem_append_left _ hp), I.hok, I.len⟩
theorem zum (I : Inv X pins st H s) : Inv (Cx.inH X e) pins st H s :=
  ⟨⟨I.ok.mod, I.ok.kind, I.ok.glob, I.ok.blt, I.ok.above, I.ok.inj, I.ok.has, I.ok.cab, fun z => (by cases z), I.ok.frames, I.ok.stk, I.ok.exf, I.ok.bs, I.ok.bsz, I.ok.noex, I.ok.exfs, I.ok.funs, I.ok.frf⟩, I.os, I.bare, I.base, I.loc, I.cell, I.free, I.freeC, I.pin, I.hok, I.len⟩
theorem zo7 (ok : X.Ok) (I : Inv (Cx.inH X e) pins st H s) : Inv X pins st H s :=
  ⟨ok, I.os, I.bare, I.base, I.loc, I.cell, I.free, I.freeC, I.pin, I.hok, I.len⟩
theorem zx1 {D : Ends} {f : Flow} {s' : Shared} (h : SP (Cx.inT X pins xe) [] D f s') : SP X pins D f s' := by
  cases f with
  | next => obtain ⟨σ', H', I, q⟩ := h; exact ⟨σ', H', zo8 I, q⟩
  | brk => obtain ⟨σ', H', I, q⟩ := h; exact ⟨σ', H', zo8 I, q⟩
  | cont => obtain ⟨σ', H', I, q⟩ := h; exact ⟨σ', H', zo8 I, q⟩
  | ret u => obtain ⟨v, σ', H', I, r, q⟩ := h; exact ⟨v, σ', H', zo8 I, r, q⟩
theorem zx0 (ok : X.Ok) {D : Ends} {f : Flow} {s' : Shared} (h : SP (Cx.inH X e) pins D f s') : SP X pins D f s' := by
  cases f with
  | next => obtain ⟨σ', H', I, q⟩ := h; exact ⟨σ', H', zo7 ok I, q⟩
  | brk => obtain ⟨σ', H', I, q⟩ := h; exact ⟨σ', H', zo7 ok I, q⟩
  | cont => obtain ⟨σ', H', I, q⟩ := h; exact ⟨σ', H', zo7 ok I, q⟩
  | ret u => obtain ⟨v, σ', H', I, r, q⟩ := h; exact ⟨v, σ', H', zo7 ok I, r, q⟩
end
def Lnd (X : Cx) (pins : List (Addr × Obj)) (st : St) (H : Hp) (s : Shared) (ea : Addr) (cls : Value) : Prop := ∃ H0 s0, Inv X pins st H0 s0 /\ Fly X.prog X.w X.stack H0 s0 cls H (.ref ea) s
section
variable {T : Tb} {X : Cx} {pins : List (Addr × Obj)} {st : St} {H : Hp} {s : Shared} {ea : Addr} {cls : Value}
theorem Lnd.inv (L : Lnd X pins st H s ea cls) : Inv X pins st H s := by
  obtain ⟨H0, s0, I, F⟩ := L
  exact L2.Inv.call' (ch := []) I F.os F.un F.hok F.bare fun b z => absurd z (by simp)
theorem Lnd.next (L : Lnd X pins st H s ea cls) {M : Model} {A : Around} {E : Value -> Shared -> Prop} {Q : Unit -> Shared -> Prop} (h : ∀ s', Lnd X pins st H s' ea cls -> Q () s') : wpAny M A (setFlight (.ref ea) none) Q E s := by
  obtain ⟨H0, s0, I, F⟩ := L
  obtain ⟨ea', a0, B, e, fl, hn, hnew, hT, hB, hA⟩ := F.ex
  cases e
  refine lands_againW fl fun h6 fl6 sl6 => h _ ?_
  obtain ⟨un, hok⟩ := zz3 F hB hT hA fl.1 fl6.1 sl6 (zia I)
  exact ⟨H0, s0, I, ⟨ea, a0, B, rfl, fl6, hn, hnew, hT, hB, hA⟩, F.os, F.bare, un, hok⟩
theorem Lnd.obj (L : Lnd X pins st H s ea cls) : H ea = none /\ (∃ o, s.heap.get? ea = some o /\ o.cls = cls) /\ ∃ s0 : Shared, s0.heap.get? ea = none /\ ∃ H0, Inv X pins st H0 s0 := by
  obtain ⟨H0, s0, I, F⟩ := L
  obtain ⟨ea', a0, B, e, fl, hn, hnew, hT, hB, hA⟩ := F.ex
  cases e
  exact ⟨hn, fl.there, s0, hnew, H0, I⟩
theorem Lnd.track (L : Lnd X pins st H s ea (.ref C)) : Inv X pins st (upd H ea (.ext (yd9 C ea))) s := by
  obtain ⟨hn, ⟨o, ho, hc⟩, s0, hnew, H0, I0⟩ := L.obj
  have I := L.inv
  have ne : ∀ b u, s0.heap.get? b = some u -> b ≠ ea := fun b u e z => by rw [z, hnew] at e; cases e
  have nt : ∀ b u, H b = some u -> b ≠ ea := fun b u e z => by rw [z, hn] at e; cases e
  have n0 : ∀ b u, X.s₀.heap.get? b = some u -> b ∉ X.ex -> b ≠ ea := fun b u e hx => by obtain ⟨u', e'⟩ := I0.base.there b u e hx; exact ne b u' e'
  refine ⟨I.ok, I.os, I.bare, ⟨I.base.keep, I.base.slot, fun b u e n hx => ?_, I.base.there, fun b xs e => ?_, fun b ob u e => ?_, fun b ps e => ?_⟩, I.loc, I.cell, ?_, fun x c e => ?_, fun p hp => ?_, fun b u e => ?_, I.len⟩
  · rw [upd_ne (n0 b u e hx)]; exact I.base.free b u e n hx
  · have q := I.base.tups b xs e; rw [upd_ne (nt b _ q)]; exact q
  · have q := I.base.frzs b ob u e; rw [upd_ne (nt b _ q)]; exact q
  · obtain ⟨more, q⟩ := I.base.tbls b ps e; exact ⟨more, by rw [upd_ne (nt b _ q)]; exact q⟩
  · obtain ⟨m, ⟨u, _, _, hu, _⟩, _⟩ := I0.loc
    rw [upd_ne (ne _ u hu)]; exact I.free
  · obtain ⟨v, u, hu, _⟩ := I0.cell x c e
    rw [upd_ne (ne _ u hu)]; exact I.freeC x c e
  · obtain ⟨p1, p2, p3⟩ := I.pin p hp
    refine ⟨p1, ?_, p3⟩
    rw [upd_ne (ne _ _ (I0.pin p hp).1)]; exact p2
  · by_cases hb : b = ea
    · subst hb; rw [upd_same] at e; cases e
      exact ⟨⟨o, ho, hc⟩, ⟨o, ho⟩, fun h1 h2 ⟨u, hu, hcu⟩ k => ⟨u, k u hu, hcu⟩⟩
    · rw [upd_ne hb] at e
      exact (I.hok b u e).stay (fun c v _ q => q) (fun c q => by rw [upd_ne (nt c _ q)]; exact q) fun c xs q => by rw [upd_ne (nt c _ q)]; exact q
theorem zu2 (I : Inv X pins st H s) (hs : X.stack = X.env :: X.outer) (hf : X.env.frame = some X.env.locals) {s' : Shared} {H' : Hp} {e : Value} (F : Fly X.prog X.w X.stack H s cls H' e s') {M : Model} {E : Value -> Shared -> Prop} {Q : Value -> Shared -> Prop}
    (h : ∀ ea s'', e = .ref ea -> Lnd X pins st H' s'' ea cls -> Q e s'') : wpAny M X.A (noteFrame e X.env) (fun _ s2 => wpAny M X.A (setFlight e none) (fun _ s3 => Q e s3) E s2) E s' := by
  obtain ⟨ea, a0, B, rfl, fl, hn, hnew, hT, hB, hA⟩ := F.ex
  have fl' : Heap.FlyingW B (X.env :: X.outer) ea cls a0 s'.heap := by rw [<- hs]; exact fl
  refine wpAny_looks_onW (by rw [<- hs]; exact I.ok.frames) hf fl' fun h4 held4 sm4 => ?_
  refine wpAny_landsW held4 fun h5 fl5 sm5 => h ea _ rfl ?_
  have fl5' : Heap.FlyingW B X.stack ea cls a0 h5 := by rw [hs]; exact fl5
  obtain ⟨un, hok⟩ := zz3 F hB hT hA fl.1 fl5'.1 (sm4.trans sm5) (zia I)
  exact ⟨H, s, I, ⟨ea, a0, B, rfl, fl5', hn, hnew, hT, hB, hA⟩, F.os, F.bare, un, hok⟩
theorem zpj (I : Inv X pins st H s) (hs : X.stack = X.env :: X.outer) (hf : X.env.frame = some X.env.locals) {h' : Heap} {args : List Value} (hx : Heap.MadeExcOf s.heap h' ea cls args) {M : Model} {E : Value -> Shared -> Prop} {Q : Unit -> Shared -> Prop}
    (h : ∀ s'', Lnd X pins st H s'' ea cls -> Q () s'') : wpAny M X.A (noteFrame (.ref ea) X.env) (fun _ s2 => wpAny M X.A (setFlight (.ref ea) none) Q E s2) E { s with heap := h' } := by
  have ff : s.heap.FunFrames (PySem.W.hideAll s.heap (frs X.stack)) (X.env :: X.outer) := by
    have := PySem.W.funFrames_hide (as := frs X.stack) I.stack (fun env he a ha => List.mem_filterMap.mpr ⟨env, he, ha⟩)
    rwa [hs] at this ⊢
  have hid : ∀ b o, s.heap.get? b = some o -> b ∉ frs X.stack -> (PySem.W.hideAll s.heap (frs X.stack)).get? b = some o := fun b o e n => PySem.W.hideAll_get _ e n
  obtain ⟨t, he, htn, ht⟩ := hx.there
  have hen : (PySem.W.hideAll s.heap (frs X.stack)).get? ea = none := by
    cases q : (PySem.W.hideAll s.heap (frs X.stack)).get? ea with
    | none => rfl
    | some u => have := PySem.W.of_hideAll _ q; rw [hx.new] at this; cases this
  unfold noteFrame
  simp only [hf]
  refine wpAny_bind (wpAny_field he rfl (x := .none) rfl ?_)
  rw [if_neg (by decide)]
  refine wpAny_entryW (base := PySem.W.hideAll s.heap (frs X.stack)) (outer := X.outer) (a0 := .ref t) (by rw [<- hs]; exact I.ok.frames) (ff.of_keeps fun b o e _ => ⟨o, hx.keeps b o e, rfl⟩) hf he (fun b o q => hx.keeps b o (PySem.W.of_hideAll _ q)) hen rfl (by simp) rfl fun h4 hN => ?_
  obtain ⟨k1, k2, k3, k4⟩ := hN
  refine wpAny_landsW ⟨k1, hen, k2, k3⟩ fun h5 fl5 sm5 => h _ ?_
  have fl5' : Heap.FlyingW (PySem.W.hideAll s.heap (frs X.stack)) X.stack ea cls (.ref t) h5 := by
    have z := fl5
    rwa [<- hs] at z
  have x4 : ∀ b o, h'.get? b = some o -> (∀ vs, o.data ≠ .fields vs) -> ∃ sl, h5.get? b = some { o with slots := sl } := (show Heap.UpToSlots h' h4 from k4).trans sm5
  have stay : ∀ b o, s.heap.get? b = some o -> b ∉ frs X.stack -> h5.get? b = some o := fun b o e n => fl5'.1 b o (hid b o e n)
  have slots : ∀ b o, s.heap.get? b = some o -> b ∈ frs X.stack -> ∃ sl, h5.get? b = some { o with slots := sl } := fun b o e n => by
    obtain ⟨_, o', e', hd⟩ := I.stack.mem n
    rw [e] at e'; cases e'
    exact x4 b o (hx.keeps b o e) hd
  have nst : ∀ b o, H b = some o -> b ∉ frs X.stack := fun b o e z => by rw [I.stkFree b z] at e; cases e
  have hn : H ea = none := by
    cases q : H ea with
    | none => rfl
    | some u => obtain ⟨v, e⟩ := zgy (I.hok _ _ q); rw [hx.new] at e; cases e
  refine ⟨H, s, I, ⟨ea, .ref t, _, rfl, fl5', hn, hx.new, fun b o e => ?_, fun b o e n hb => hid b o e hb, fun b o e hb => ⟨o, hid b o e hb⟩⟩, rfl, I.bare, ⟨fun b o e n hb _ => stay b o e hb, fun b o e n hb _ => slots b o e hb, fun b o e n _ => n, fun b o e _ => ?_, fun _ _ e => e, fun _ _ _ e => e, fun b ps e => ⟨#[], by rw [e]; simp⟩⟩, yam I.hok fun b o u e q => stay b u q (nst b o e)⟩
  · obtain ⟨u, q⟩ := zgy (I.hok _ _ e)
    exact ⟨u, hid b u q (nst b o e)⟩
  · by_cases hb : b ∈ frs X.stack
    · obtain ⟨sl, q⟩ := slots b o e hb; exact ⟨_, q⟩
    · exact ⟨o, stay b o e hb⟩
end
def yec (X : Cx) (x : Str) (cv : Value) : Prop := X.mg x = some cv \/ (X.mg x = none /\ bootBuiltins x = some cv /\ x ≠ "__name__")
inductive FHs (T : Tb) (X : Cx) : List ExceptHandler -> List Hd -> Prop where
  | nil : FHs T X [] []
  | cons {x : Str} {np pos : Pos} {cv : Value} {b₀ : Stmt} {suite : List Stmt} {t : Nat -> Option Bool} {g : Ev -> M Fl} {r : List ExceptHandler} {hs : List Hd} (hg : Gl X x) (hd : (x == ("__debug__" : Str)) = false) (hm : yec X x cv) (ht : ∀ c b, t c = some b -> PySem.W.exmOne X.K (.ref (T.ca c)) cv = some b)
      (hb : ∀ e, FSs T (Cx.inH X e) (b₀ :: suite) g) (hr : FHs T X r hs) : FHs T X (.ExceptHandler (some (.Name x np)) none (b₀ :: suite) pos :: r) (⟨t, none, g⟩ :: hs)
  | consAs {x n : Str} {i : Nat} {np pos : Pos} {cv : Value} {b₀ : Stmt} {suite : List Stmt} {t : Nat -> Option Bool} {g : Ev -> M Fl} {r : List ExceptHandler} {hs : List Hd} (hg : Gl X x) (hd : (x == ("__debug__" : Str)) = false) (hm : yec X x cv) (ht : ∀ c b, t c = some b -> PySem.W.exmOne X.K (.ref (T.ca c)) cv = some b)
      (hN : X.N.Nodup) (hi : X.N[i]? = some n) (hl : X.env.scope.names.lookup n = some .local)
      (hb : ∀ e, FSs T (Cx.inH X e) (b₀ :: suite) g) (hr : FHs T X r hs) : FHs T X (.ExceptHandler (some (.Name x np)) (some n) (b₀ :: suite) pos :: r) (⟨t, some i, g⟩ :: hs)
section
variable {T : Tb} {X : Cx}
theorem yft {pins : List (Addr × Obj)} {st : St} {H : Hp} {s : Shared} {x : Str} {cv : Value} {pos : Pos} {E : Value -> Shared -> Prop} {Q : Value -> Shared -> Prop} (I : Inv X pins st H s) (hg : Gl X x) (hd : (x == ("__debug__" : Str)) = false) (hm : yec X x cv) (h : Q cv s) : wpAny (model X.prog X.w) X.A (eval (.Name x pos) X.env) Q E s := by
  rcases hm with hm | ⟨hm, hv, hn⟩
  · exact zuw I hg hm h hd
  · exact ya5 I hg hm hv h hn hd
theorem zqk {e : Value} {μ : List Addr} {H : Hp} {o : Out Fl} {D : Ends} (hp : yhp T EN (RFl T) μ H (o.bind noF) (yhm X D)) : yhp T EN (RFl T) μ H o (yhm (Cx.inH X e) D) := by
  cases o with
  | bad => exact hp
  | ex x σ => exact hp
  | ok fl σ =>
    intro μ1 gl H1 e1 r1 q1
    cases fl with
    | nx ρ => cases gl with
      | nx st => exact hp μ1 (.nx st) H1 e1 r1 q1
      | _ => exact q1.elim
    | rt ρ => cases gl with
      | rt st => exact hp μ1 (.rt st) H1 e1 r1 q1
      | _ => exact q1.elim
    | bk ρ => cases gl with
      | bk st => exact hp μ1 (.bk st) H1 e1 r1 q1
      | _ => exact q1.elim
    | ct ρ => cases gl with
      | ct st => exact hp μ1 (.ct st) H1 e1 r1 q1
      | _ => exact q1.elim
    | xc ρ x => exact hp.elim
theorem zh9 {μ : List Addr} {H : Hp} {ρ : Ev} {st : St} (h : yhl T μ H ρ st) (i : Nat) : yhl T μ H (ρ.set i none) (st.set i none) := by
  refine ⟨by simpa using h.1, fun j d q => ?_⟩
  rw [List.getElem?_set] at q
  by_cases hj : i = j
  · subst hj; rw [if_pos rfl] at q; split at q <;> cases q
  · rw [if_neg hj] at q
    obtain ⟨v, h1, h2⟩ := h.2 j d q
    exact ⟨v, by rw [List.getElem?_set, if_neg hj]; exact h1, h2⟩
theorem zql {e : Value} {μ : List Addr} {H : Hp} {o : Out Fl} {D : Ends} {i : Nat} (hp : yhp T EN (RFl T) μ H (o.bind (yj1 i)) (yhm X D)) : yhp T EN (RFl T) μ H o (yhm (Cx.inH X e) ⟨fun st H => D.nx (st.set i none) H, D.rt, fun st H => D.bk (st.set i none) H, fun st H => D.ct (st.set i none) H⟩) := by
  cases o with
  | bad => exact hp
  | ex x σ => exact hp
  | ok fl σ =>
    intro μ1 gl H1 e1 r1 q1
    cases fl with
    | nx ρ => cases gl with
      | nx st => exact hp μ1 (.nx (st.set i none)) H1 e1 r1 (zh9 q1 i)
      | _ => exact q1.elim
    | rt ρ => cases gl with
      | rt st => exact hp μ1 (.rt st) H1 e1 r1 q1
      | _ => exact q1.elim
    | bk ρ => cases gl with
      | bk st => exact hp μ1 (.bk (st.set i none)) H1 e1 r1 (zh9 q1 i)
      | _ => exact q1.elim
    | ct ρ => cases gl with
      | ct st => exact hp μ1 (.ct (st.set i none)) H1 e1 r1 (zh9 q1 i)
      | _ => exact q1.elim
    | xc ρ x => exact hp.elim
theorem zlb {pins : List (Addr × Obj)} {st : St} {H : Hp} {s : Shared} {n : Str} {i t : Nat} {h' : Heap} {m : Str -> Option Value} (I : Inv X pins st H s) (hN : X.N.Nodup) (hi : X.N[i]? = some n) (hl : X.env.scope.names.lookup n = some .local) (hn : s.heap.Ns X.env.locals m) {w : Option Value} (hn' : h'.Ns X.env.locals fun y => if y = n then w else m y) (hs : Heap.SameBut X.env.locals s.heap h') : Inv X pins (st.set i none) H { s with heap := h', toks := t } := by
  have neL : ∀ b o, X.s₀.heap.get? b = some o -> b ≠ X.env.locals := fun b o e => Nat.ne_of_lt (Nat.lt_of_lt_of_le (Heap.lt_size e) I.ok.above)
  obtain ⟨m0, hm0, hloc⟩ := I.loc
  have em : m0 = m := by
    obtain ⟨o, es, ep, ho, hd, hk, hf⟩ := hm0
    obtain ⟨o', es', ep', ho', hd', hk', hf'⟩ := hn
    rw [ho] at ho'; cases ho'
    rw [hd] at hd'; cases hd'
    funext y
    rw [<- hf y, <- hf' y]
  subst em
  refine ⟨I.ok, I.os, I.bare, ⟨fun b o e n hb hx => (hs.2 b (neL b o e)).trans (I.base.keep b o e n hb hx), fun b o e n hb hx => ?_, I.base.free, fun b o e hx => ?_, I.base.tups, I.base.frzs, I.base.tbls⟩, ⟨_, hn', fun j y v e1 e2 e3 => ?_⟩, fun y c e => ?_, I.free, I.freeC, fun p hp => ?_, yam I.hok fun b o u e q => ?_, by simpa using I.len⟩
  · obtain ⟨sl, q⟩ := I.base.slot b o e n hb hx
    exact ⟨sl, (hs.2 b (neL b o e)).trans q⟩
  · obtain ⟨o', q⟩ := I.base.there b o e hx
    exact ⟨o', (hs.2 b (neL b o e)).trans q⟩
  · rw [List.getElem?_set] at e2
    by_cases hj : i = j
    · subst hj; rw [if_pos rfl] at e2; split at e2 <;> cases e2
    · rw [if_neg hj] at e2
      obtain ⟨u, r, lk⟩ := hloc j y v e1 e2 e3
      refine ⟨u, r, ?_⟩
      have hy : y ≠ n := fun z => hj (zpx hN hi (z ▸ e1))
      rcases lk with ⟨k, q⟩ | ⟨k, c, q, z⟩
      · exact .inl ⟨k, by show (if y = n then w else m0 y) = some u; rw [if_neg hy]; exact q⟩
      · exact .inr ⟨k, c, q, z.sameBut hs (I.cne y c q)⟩
  · obtain ⟨v, z⟩ := I.cell y c e
    exact ⟨v, z.sameBut hs (I.cne y c e)⟩
  · obtain ⟨q1, q2, q3, q4⟩ := I.pin p hp
    exact ⟨(hs.2 p.1 q3).trans q1, q2, q3, q4⟩
  · exact (hs.2 b fun z => by rw [z, I.free] at e; cases e).trans q
theorem zgf {D : Ends} {pins : List (Addr × Obj)} {st : St} {H : Hp} {ea : Addr} {x : Xn} {μ : List Addr} {ρ : Ev} {σ : Sto} {hds : List ExceptHandler} {hs : List Hd} (h : FHs T X hds hs) (hE : yhl T μ H ρ st) (hr : Rel T μ H σ) (hp : yhp T EN (RFl T) μ H (yak ρ x hs σ) (yhm X D)) :
    ∀ s, Lnd X pins st H s ea (T.cv x) -> wpAny (model X.prog X.w) X.A (handleBy (.ref ea) X.env hds) (SP X pins D) X.xe s := by
  induction h with
  | nil => exact hp.elim
  | @cons y np pos cv b₀ suite t g r hs hg hd hm ht hb hrest ih =>
    intro s L
    have I := L.inv
    obtain ⟨_, ⟨o, ho, hc⟩, _⟩ := L.obj
    refine wpAny_handleBy_cons (codeAny_handlers_test (yft (X := Cx.inH X (.ref ea)) (zum I) hg hd hm ?_)) (by intro q; cases q)
    unfold yak at hp
    dsimp only at hp
    cases et : t x.cls with
    | none => rw [et] at hp; exact hp.elim
    | some b =>
      rw [et] at hp
      have LT : PySem.W.Looks (model X.prog X.w) s.heap (typeOf (.ref ea)) (T.cv x) := by rw [<- hc]; exact (PySem.W.Looks.ld ho).andThen .now
      refine (PySem.W.exm_one I.kIn LT (ht x.cls b et)).here ?_
      cases b with
      | false => exact ih hp s L
      | true =>
        refine codeAny_handlers_suite (L.next fun s' L' => ?_)
        exact wpAny_mono (hb (.ref ea) pins s' st H D (zum L'.inv) ⟨μ, ρ, σ, hE, hr, zqk hp⟩) (fun f s2 q => zx0 I.ok q) fun _ _ z => z.elim
  | @consAs y n i np pos cv b₀ suite t g r hs hg hd hm ht hN hi hl hb hrest ih =>
    intro s L
    have I := L.inv
    obtain ⟨_, ⟨o, ho, hc⟩, _⟩ := L.obj
    refine wpAny_handleBy_cons (codeAny_handlers_test (yft (X := Cx.inH X (.ref ea)) (zum I) hg hd hm ?_)) (by intro q; cases q)
    unfold yak at hp
    dsimp only at hp
    cases et : t x.cls with
    | none => rw [et] at hp; exact hp.elim
    | some b =>
      rw [et] at hp
      have LT : PySem.W.Looks (model X.prog X.w) s.heap (typeOf (.ref ea)) (T.cv x) := by rw [<- hc]; exact (PySem.W.Looks.ld ho).andThen .now
      refine (PySem.W.exm_one I.kIn LT (ht x.cls b et)).here ?_
      cases b with
      | false => exact ih hp s L
      | true =>
        refine codeAny_handlers_suite_as (L.next fun s' L' => ?_)
        have hn : H ea = none := L'.obj.1
        have I1 : Inv X pins st (upd H ea (.ext (yd9 (T.ca x.cls) ea))) s' := Lnd.track L'
        have ex1 : Ext μ H μ (upd H ea (.ext (yd9 (T.ca x.cls) ea))) := ztf hn
        have out : ea ∉ μ := fun z => by obtain ⟨u, hu, _⟩ := hr.mem z; rw [hn] at hu; cases hu
        have rp : Rep T μ (upd H ea (.ext (yd9 (T.ca x.cls) ea))) (.exn x.cls) (.ref ea) := by rw [Rep]; exact ⟨ea, rfl, out, upd_same⟩
        refine zri (X := Cx.inH X (.ref ea)) (v := .ref ea) (zum I1) hN hi (.inl hl) rfl (fun s2 I2 => ?_) (.inr hl)
        refine wpAny_mono (hb (.ref ea) pins s2 _ _ ⟨fun st H => D.nx (st.set i none) H, D.rt, fun st H => D.bk (st.set i none) H, fun st H => D.ct (st.set i none) H⟩ I2 ⟨μ, ρ.set i (some (.exn x.cls)), σ, (hE.mono ex1).set i rp, hr.fresh hn, zql (yhp.mono ex1 hp)⟩) (fun f s3 q => ?_) fun _ _ z => z.elim
        have cls0 : (X.env.scope.kind == .class || (X.env.scope.kind == .module && X.env.locals != X.env.globals)) = false := by rw [I.ok.kind]; rfl
        have go : ∀ {st3 : St} {H3 : Hp}, Inv (Cx.inH X (.ref ea)) pins st3 H3 s3 -> (∀ s4, Inv X pins (st3.set i none) H3 s4 -> SP X pins D f s4) -> wpAny (model X.prog X.w) X.A (do bindName X.env n .none; unbindBehindTheSuite X.env n pos) (fun _ s₃ => SP X pins D f s₃) X.xe s3 := fun {st3 H3} I3 k => by
          have J := zo7 I.ok I3
          obtain ⟨m, hm3, _⟩ := id J.loc
          exact wpAny_nameGoes_keeps hl hm3 cls0 fun h4 v4 hn4 sb4 => k _ (zlb J hN hi hl hm3 hn4 sb4)
        cases f with
        | next => obtain ⟨st3, H3, I3, q3⟩ := q; exact go I3 fun s4 I4 => ⟨_, _, I4, q3⟩
        | brk => obtain ⟨st3, H3, I3, q3⟩ := q; exact go I3 fun s4 I4 => ⟨_, _, I4, q3⟩
        | cont => obtain ⟨st3, H3, I3, q3⟩ := q; exact go I3 fun s4 I4 => ⟨_, _, I4, q3⟩
        | ret u => obtain ⟨v, st3, H3, I3, r3, q3⟩ := q; exact go I3 fun s4 I4 => ⟨v, _, _, I4, r3, q3⟩
theorem yac {body : List Stmt} {h₀ : ExceptHandler} {hds : List ExceptHandler} {hs : List Hd} {g : Ev -> M Fl} {pos : Pos} (hst : X.stack = X.env :: X.outer) (hf : X.env.frame = some X.env.locals)
    (hb : ∀ pins xe, PassesOwn (model X.prog X.w) X.A X.env xe -> FSs T (Cx.inT X pins xe) body g) (hh : FHs T X (h₀ :: hds) hs) : FS T X (.Try body (h₀ :: hds) [] [] pos) (yjr g hs) := by
  intro pins s st H D I hw
  obtain ⟨μ, ρ, σ, hE, hr, hp⟩ := hw
  refine wpAny_Try_except ?_
  refine wpAny_mono (hb pins (fun e s₁ => wpAny (model X.prog X.w) X.A (noteFrame e X.env) (fun _ s₂ => wpAny (model X.prog X.w) X.A (setFlight e none) (fun _ s₃ => wpAny (model X.prog X.w) X.A (handleBy e X.env (h₀ :: hds)) (SP X pins D) X.xe s₃) X.xe s₂) X.xe s₁) PassesOwn.looking [] s st H D (zun I)
    ⟨μ, ρ, σ, hE, hr, ?_⟩) (fun f s1 q => ?_) fun _ _ z => z
  · have hp' : yhp T EN (RFl T) μ H ((g ρ σ).bind (yjz hs)) (yhm X D) := hp
    cases eo : g ρ σ with
    | bad => rw [eo] at hp'; exact hp'
    | ex x σ1 => rw [eo] at hp'; exact hp'
    | ok fl σ1 =>
      rw [eo] at hp'
      intro μ1 gl H1 e1 r1 q1
      have p1 := hp'.mono e1
      cases fl with
      | nx ρ => cases gl with
        | nx st => exact p1 μ1 (.nx st) H1 (Ext.refl _ _) r1 q1
        | _ => exact q1.elim
      | rt ρ => cases gl with
        | rt st => exact p1 μ1 (.rt st) H1 (Ext.refl _ _) r1 q1
        | _ => exact q1.elim
      | bk ρ => cases gl with
        | bk st => exact p1 μ1 (.bk st) H1 (Ext.refl _ _) r1 q1
        | _ => exact q1.elim
      | ct ρ => cases gl with
        | ct st => exact p1 μ1 (.ct st) H1 (Ext.refl _ _) r1 q1
        | _ => exact q1.elim
      | xc ρ1 x => cases gl with
        | xc st1 cls =>
          obtain ⟨hE1, rfl⟩ := q1
          refine ⟨fun p0 H0 s0 e s' I0 F => ?_, fun p0 s0 ea h' args I0 hx => ?_⟩
          · exact zu2 (zo8 I0) hst hf F (Q := fun e s₃ => wpAny (model X.prog X.w) X.A (handleBy e X.env (h₀ :: hds)) (SP X pins D) X.xe s₃) fun ea s'' ee L => by subst ee; exact zgf hh hE1 r1 p1 s'' L
          · exact zpj (zo8 I0) hst hf hx fun s'' L => zgf hh hE1 r1 p1 s'' L
        | _ => exact q1.elim
  · have q' := zx1 q
    cases f with
    | next => exact wpAny_execs_nil q'
    | brk => exact q'
    | cont => exact q'
    | ret u => exact q'
end
end L4
namespace L4
open PySem PySem.Spec PyProof.Rows L2
def yes : List D -> Option (List Bool)
  | [] => some []
  | .bl b :: r => (yes r).map (b :: ·)
  | _ :: _ => none
def yaq : List D -> Option (List Int)
  | [] => some []
  | .int b :: r => (yaq r).map (b :: ·)
  | _ :: _ => none
theorem zsh {T : Tb} {μ : List Addr} {H : Hp} : ∀ {ds : List D} {vs : List V} {bs : List Bool}, yhu T μ H ds vs -> yes ds = some bs -> vs = bs.map V.bl
  | [], vs, bs, r, h => by cases h; rw [yhu] at r; exact r
  | d :: ds, vs, bs, r, h => by
    rw [yhu] at r
    obtain ⟨v, w, rfl, h1, h2⟩ := r
    cases d with
    | bl b =>
      obtain ⟨cs, e1, e2⟩ := Option.map_eq_some_iff.mp h
      subst e2
      rw [Rep] at h1; subst h1
      rw [zsh h2 e1]; rfl
    | _ => cases h
theorem zo6 {T : Tb} {μ : List Addr} {H : Hp} : ∀ {ds : List D} {vs : List V} {bs : List Int}, yhu T μ H ds vs -> yaq ds = some bs -> vs = bs.map V.int
  | [], vs, bs, r, h => by cases h; rw [yhu] at r; exact r
  | d :: ds, vs, bs, r, h => by
    rw [yhu] at r
    obtain ⟨v, w, rfl, h1, h2⟩ := r
    cases d with
    | int b =>
      obtain ⟨cs, e1, e2⟩ := Option.map_eq_some_iff.mp h
      subst e2
      rw [Rep] at h1; subst h1
      rw [zo6 h2 e1]; rfl
    | _ => cases h
def yit (xs : List D) : M D := fun σ => match xs with
  | [x] => (match (yg0 σ x).bind yes with
    | some bs => .ok (.bl (bs.all id)) σ
    | none => .bad)
  | _ => .bad
def yi9 (xs : List D) : M D := fun σ => match xs with
  | [x] => (match (yg0 σ x).bind yaq with
    | some bs => .ok (.int bs.sum) σ
    | none => .bad)
  | _ => .bad
section
variable {T : Tb} {X : Cx}
def ygq (K : PySem.W.Frag) (g : List Bool -> Bool) : List V -> Hp -> VK -> Prop := fun xs H Q => ∃ p bs, xs = [.ref p] /\ (SqL K H p (bs.map V.bl) \/ SqT K H p (bs.map V.bl)) /\ Q (.bl (g bs)) H
def ygs (K : PySem.W.Frag) : List V -> Hp -> VK -> Prop := fun xs H Q => ∃ (p : Addr) (bs : List Int), xs = [.ref p] /\ (SqL K H p (bs.map V.int) \/ SqT K H p (bs.map V.int)) /\ Q (.int bs.sum) H
theorem zyc : ∀ {bs : List Bool} {us : List Value}, yhw (bs.map V.bl) us -> us = bs.map Value.bool
  | [], us, h => by cases h; rfl
  | b :: bs, us, h => by
    cases h with
    | cons r t => cases r; rw [zyc t]; rfl
theorem zqo {α : Type} (g : α -> Bool) (d : α) : ∀ (bs : List α), (List.range bs.length).all (fun i => g (bs.getD i d)) = bs.all g
  | [] => rfl
  | b :: bs => by
    rw [List.length_cons, List.range_succ_eq_map, List.all_cons, List.all_map, List.all_cons]
    congr 1
    rw [<- zqo g d bs]
    congr 1
theorem zrn {prog : Program} {w : World} {A : Around} (bs : List Bool) : TruthOf prog w A (fun i v => (bs.map Value.bool).toArray[i]? = some v) (fun i => bs.getD i false) := by
  intro i v s Q E hP hQ
  simp only [List.getElem?_toArray, List.getElem?_map] at hP
  cases e : bs[i]? with
  | none => rw [e] at hP; cases hP
  | some b =>
    rw [e] at hP; cases hP
    have hQ' : Q (bs.getD i false) s := hQ
    rw [List.getD_eq_getElem?_getD, e] at hQ'
    exact wpAny_truthy_bool hQ'
theorem zpb {s : Shared} {o : Obj} {h' : Heap} (k : ∀ b u, b ∉ [s.heap.objs.size] -> (s.heap.push o).get? b = some u -> h'.get? b = some u) : ∀ b u, s.heap.get? b = some u -> h'.get? b = some u := fun b u e =>
  k b u (fun z => absurd (Heap.lt_size e) (by rw [List.mem_singleton.mp z]; exact Nat.lt_irrefl _)) (Heap.get?_push_of_some _ e)
theorem zrw {pins : List (Addr × Obj)} {s : Shared} {st : St} {H : Hp} {p : Addr} {vs : List V} {E : Value -> Shared -> Prop} {Q : Value -> Shared -> Prop} (hh : X.A.handled = none) (I : Inv X pins st H s) (hq : SqL X.K H p vs \/ SqT X.K H p vs)
    (h : ∀ (its : List Value) (It : Addr) (fp : List Addr) (St : Nat -> Heap -> Prop) (s2 : Shared), yhw vs its -> Walks X.prog X.w X.A.in1 It fp [It] its.toArray.size (fun i v => its.toArray[i]? = some v) St -> St 0 s2.heap -> (∀ b ∈ fp, b < s2.heap.objs.size) ->
      (∀ h' tk, (∀ b o, b ∉ [It] -> s2.heap.get? b = some o -> h'.get? b = some o) -> Inv X pins st H { s2 with heap := h', toks := tk }) -> Q (.ref It) s2) : wpAny (model X.prog X.w) X.A.in1 (pyIter (.ref p)) Q E s := by
  rcases hq with hq | hq
  · obtain ⟨its, rv, pl, hz⟩ := I.list hq
    have hlt : p < s.heap.objs.size := by obtain ⟨_, e, _⟩ := pl.isList; exact Heap.lt_size e
    refine wpAny_pyIter_list pl.isList (h its s.heap.objs.size [s.heap.objs.size, p] _ _ rv (Walks.list (A := X.A.in1) hh _ p (Nat.ne_of_lt hlt) its.toArray) ⟨⟨_, Heap.get?_push_size _ rfl, rfl, rfl⟩, pl.isList.push _⟩ (fun b hb => ?_) (fun h' tk hk => I.kept (zpb hk)))
    show b < (s.heap.push _).objs.size
    rw [Heap.size_push]
    simp only [List.mem_cons, List.not_mem_nil, or_false] at hb
    rcases hb with rfl | rfl
    · exact Nat.lt_succ_self _
    · exact Nat.lt_succ_of_lt hlt
  · obtain ⟨its, rv, pl, hz⟩ := I.tuple hq
    have hlt : p < s.heap.objs.size := pl.lt
    refine wpAny_pyIter_tuple (show s.heap.IsTuple p _ from pl) (h its s.heap.objs.size [s.heap.objs.size, p] _ _ rv (Walks.tuple (A := X.A.in1) hh _ p (Nat.ne_of_lt hlt) its.toArray) ⟨⟨_, Heap.get?_push_size _ rfl, rfl, rfl⟩, Heap.IsTuple.push (show s.heap.IsTuple p _ from pl) _⟩ (fun b hb => ?_) (fun h' tk hk => I.kept (zpb hk)))
    show b < (s.heap.push _).objs.size
    rw [Heap.size_push]
    simp only [List.mem_cons, List.not_mem_nil, or_false] at hb
    rcases hb with rfl | rfl
    · exact Nat.lt_succ_self _
    · exact Nat.lt_succ_of_lt hlt
theorem zng (hc : X.calm = true) : yd8 X (.builtin "all") (ygq X.K fun bs => bs.all id) := by
  intro pins s st H xs us Q I r h
  obtain ⟨p, bs, rfl, hq, q⟩ := h
  obtain ⟨u, rfl, ru⟩ := yhg r
  cases ru
  refine call_all_walk (zrw (I.ok.hd hc) I hq fun its It fp St s2 rv W h0 hf hI => ?_)
  have ei := zyc rv
  subst ei
  refine ⟨_, _, _, _, _, _, fun i => bs.getD i false, rfl, W, h0, zrn bs, fun h' tk hk => ⟨.bl (bs.all id), H, hI h' tk hk, ?_, q⟩⟩
  show Value.bool _ = Value.bool _
  rw [List.size_toArray, List.length_map]
  exact congrArg Value.bool (zqo id false bs)
theorem zhb : ∀ (bs : List Int) (n : Nat), n <= bs.length -> preSum (fun i => bs.getD i 0) n = (bs.take n).sum
  | bs, 0, _ => by simp [preSum]
  | bs, n + 1, h => by
    rw [preSum, zhb bs n (by omega), List.take_succ_eq_append_getElem (by omega), List.sum_append]
    simp [List.getD_eq_getElem?_getD, show n < bs.length by omega]
theorem zkk (hc : X.calm = true) : yd8 X (.builtin "sum") (ygs X.K) := by
  intro pins s st H xs us Q I r h
  obtain ⟨p, bs, rfl, hq, q⟩ := h
  obtain ⟨u, rfl, ru⟩ := yhg r
  cases ru
  refine call_sum_walkG (zrw (I.ok.hd hc) I hq fun its It fp St s2 rv W h0 hf hI => ?_)
  refine ⟨_, _, _, _, _, _, fun i => bs.getD i 0, rfl, W, h0, hf, fun i v hv => ?_, fun h' tk t' hk => ⟨.int bs.sum, H, hI h' tk hk, ⟨t', ?_⟩, q⟩⟩
  · simp only [List.getElem?_toArray] at hv
    obtain ⟨x, h1, h2⟩ := zru rv hv
    rw [List.getElem?_map] at h1
    cases e : bs[i]? with
    | none => rw [e] at h1; cases h1
    | some b =>
      rw [e] at h1; cases h1
      obtain ⟨t, rfl⟩ := h2
      exact ⟨t, by show Value.int b t = Value.int (bs.getD i 0) t; rw [List.getD_eq_getElem?_getD, e]; rfl⟩
  · have el : its.toArray.size = bs.length := by rw [List.size_toArray, <- rv.length, List.length_map]
    rw [el, zhb bs _ (Nat.le_refl _), List.take_length]
theorem zq2 {α : Type} {σ : Sto} {x : D} {g : List D -> Option α} {bs : α} (h : (yg0 σ x).bind g = some bs) : ∃ ys, yg0 σ x = some ys /\ g ys = some bs := Option.bind_eq_some_iff.mp h
theorem zxn (hK : T.K = X.K) : zr0 T (ygq X.K fun bs => bs.all id) yit := by
  intro E μ H σ xs vs Q r p h
  match xs with
  | [] => exact h.elim
  | [x] =>
    rw [yhu] at p
    obtain ⟨v, w, rfl, p1, p2⟩ := p
    rw [yhu] at p2; subst p2
    unfold yit at h
    cases e : (yg0 σ x).bind yes with
    | none => simp only [e] at h; exact h.elim
    | some bs =>
      simp only [e] at h
      obtain ⟨ys, e1, e2⟩ := zq2 e
      obtain ⟨b, vs, rfl, h1, h2⟩ := zxb r p1 e1
      rw [hK, zsh h1 e2] at h2
      exact ⟨b, bs, rfl, h2, yhp.here h r (by rw [Rep])⟩
  | _ :: _ :: _ => exact h.elim
theorem zxz (hK : T.K = X.K) : zr0 T (ygs X.K) yi9 := by
  intro E μ H σ xs vs Q r p h
  match xs with
  | [] => exact h.elim
  | [x] =>
    rw [yhu] at p
    obtain ⟨v, w, rfl, p1, p2⟩ := p
    rw [yhu] at p2; subst p2
    unfold yi9 at h
    cases e : (yg0 σ x).bind yaq with
    | none => simp only [e] at h; exact h.elim
    | some bs =>
      simp only [e] at h
      obtain ⟨ys, e1, e2⟩ := zq2 e
      obtain ⟨b, vs, rfl, h1, h2⟩ := zxb r p1 e1
      rw [hK, zo6 h1 e2] at h2
      exact ⟨b, bs, rfl, h2, yhp.here h r (by rw [Rep])⟩
  | _ :: _ :: _ => exact h.elim
def ygd (xs : List D) : M D := match xs with
  | [.int i, .int j] => ret (.int (max i j))
  | _ => bad
def yge (xs : List D) : M D := match xs with
  | [.int i, .int j] => ret (.int (min i j))
  | _ => bad
theorem zrp {μ : List Addr} {H : Hp} {x y : D} {vs : List V} (p : yhu T μ H [x, y] vs) : ∃ v u, vs = [v, u] /\ Rep T μ H x v /\ Rep T μ H y u := by
  rw [yhu] at p
  obtain ⟨v, w, rfl, p1, p2⟩ := p
  rw [yhu] at p2
  obtain ⟨u, w', rfl, p3, p4⟩ := p2
  rw [yhu] at p4; subst p4
  exact ⟨v, u, rfl, p1, p3⟩
theorem snd_max2 : zr0 T (fun xs H Q => ∃ i j, xs = [.int i, .int j] /\ Q (.int (if j > i then j else i)) H) ygd := by
  intro E μ H σ xs vs Q r p h
  unfold ygd at h
  split at h
  · rename_i i j
    obtain ⟨v, u, rfl, p1, p2⟩ := zrp p
    refine ⟨i, j, by rw [yap p1, yap p2], ?_⟩
    have e : (if j > i then j else i) = max i j := by rw [Int.max_def]; split <;> split <;> omega
    rw [e]; exact yhp.here h r (by rw [Rep])
  · exact h.elim
theorem zre : zr0 T (fun xs H Q => ∃ i j, xs = [.int i, .int j] /\ Q (.int (if j < i then j else i)) H) yge := by
  intro E μ H σ xs vs Q r p h
  unfold yge at h
  split at h
  · rename_i i j
    obtain ⟨v, u, rfl, p1, p2⟩ := zrp p
    refine ⟨i, j, by rw [yap p1, yap p2], ?_⟩
    have e : (if j < i then j else i) = min i j := by rw [Int.min_def]; split <;> split <;> omega
    rw [e]; exact yhp.here h r (by rw [Rep])
  · exact h.elim
def oIsT (neg : Bool) (x y : D) : M D := fun σ => match y with
  | .bl k => (match x with
    | .bl c => .ok (.bl (if neg then !(c == k) else c == k)) σ
    | .non => .ok (.bl neg) σ
    | .int _ => .ok (.bl neg) σ
    | .str _ => .ok (.bl neg) σ
    | _ => .bad)
  | _ => .bad
def ddp (ns : List Int) : List Int := ns.foldl step_dedup []
theorem zkr (ns : List Int) : firstMet (fun i => ns.getD i 0) ns.length = ddp ns := by
  unfold firstMet ddp
  congr 1
  apply List.ext_getElem?
  intro i
  by_cases h : i < ns.length
  · simp [h]
  · simp [h]
def zvw (x : D) : M D := fun σ => match (yio σ x).bind yaq with
  | some ns => if ns.length <= cap then .ok (.int (ddp ns).length) σ else .bad
  | none => .bad
def rSet (K : PySem.W.Frag) : List V -> Hp -> VK -> Prop := fun xs H Q => ∃ (p : Addr) (ns : List Int), xs = [.ref p] /\ SqL K H p (ns.map V.int) /\ ns.length <= cap /\ ∀ l, H l = none -> Q (.ref l) (upd H l (.set (fun k => (ddp ns).any (· == k)) (ddp ns).length))
theorem znk {n : Nat} (h : n <= cap) : n + 1 < scanBound := Nat.lt_of_le_of_lt (Nat.succ_le_succ h) (by decide)
theorem zkj (hc : X.calm = true) : yd8 X (.type "set") (rSet X.K) := by
  intro pins s st H xs us Q I r h
  obtain ⟨p, ns, rfl, hq, hl, q⟩ := h
  obtain ⟨u, rfl, ru⟩ := yhg r
  cases ru
  obtain ⟨its, rv, pl, hz⟩ := I.list hq
  have el : its.length = ns.length := by rw [<- rv.length, List.length_map]
  refine call_set_list (I.ok.hd hc) pl.isList (ns := ns) (zin rv) (by rw [List.size_toArray, el]; exact znk hl) fun h' tk hs hk => ?_
  rw [show its.toArray.size = ns.length by rw [List.size_toArray, el], zkr] at hs
  refine ⟨.ref s.heap.objs.size, _, I.laid (t' := tk) (o := .set (fun k => (ddp ns).any (· == k)) (ddp ns).length) (fun b o e => hk b o (Heap.lt_size e) e) (Nat.le_refl _) ?_, rfl, q _ (I.hok.fresh (Nat.le_refl _))⟩
  exact hs
theorem zkh : yd8 X (.builtin "len") (fun xs H Q => ∃ (p : Addr) (S : Int -> Bool) (n : Nat), xs = [.ref p] /\ H p = some (.set S n) /\ Q (.int n) H) := by
  intro pins s st H xs us Q I r h
  obtain ⟨p, S, n, rfl, hp, q⟩ := h
  obtain ⟨u, rfl, ru⟩ := yhg r
  cases ru
  obtain ⟨o, es, ep, t, h1, h2, h3, h4, h5, h6, h7, h8⟩ := (show yed X.prog X.w H s.heap p (.set S n) from I.hok p _ hp)
  refine call_len_set h1 h2 h3 h7 (by have : scanBound <= 2 ^ 62 := by decide
                                      omega) ⟨.int n, H, I.tok _, ⟨_, by rw [h8]⟩, q⟩
theorem zky {e : Expr} {f : Ev -> M D} {p p2 pos pos2 : Pos} (hK : T.K = X.K) (hc : X.calm = true) (hg : Gl X "len") (hm : X.mg "len" = none) (hg2 : Gl X "set") (hm2 : X.mg "set" = none) (he : FE T X e f)
    (hs : starEach [e] X.env = (false, eval e X.env) :: starEach [] X.env := by rfl) (hpl : (backTo pos2 (starEach [] X.env)).any (·.1) = false := by rfl)
    (hs2 : starEach [.Call (.Name "set" p2) [e] [] pos2] X.env = (false, eval (.Call (.Name "set" p2) [e] [] pos2) X.env) :: starEach [] X.env := by rfl) (hpl2 : (backTo pos (starEach [] X.env)).any (·.1) = false := by rfl) :
    FE T X (.Call (.Name "len" p) [.Call (.Name "set" p2) [e] [] pos2] [] pos) (eUn zvw f) := by
  intro pins s st H Q I h
  refine zqd zkh hg hm PySem.boot_len (zv7 (zma (zkj hc) hg2 hm2 rfl (zv7 he ych hs) (by decide) (by decide) hs hpl) ych hs2) (by decide) (by decide) hs2 hpl2 pins s st H Q I ?_
  obtain ⟨μ, ρ, σ, hE, hr, hp⟩ := h
  refine ⟨μ, ρ, σ, hE, hr, hp.bind fun d σ1 μ1 v H1 _ e1 r1 q1 p1 => ?_⟩
  unfold zvw at p1
  cases e2 : (yio σ1 d).bind yaq with
  | none => rw [e2] at p1; exact p1.elim
  | some ns =>
    rw [e2] at p1
    dsimp only at p1
    by_cases hl : ns.length <= cap
    · rw [if_pos hl] at p1
      obtain ⟨ys, e3, e4⟩ := Option.bind_eq_some_iff.mp e2
      obtain ⟨a, vs, rfl, h1, h2⟩ := r1.ls q1 e3
      have ev := zo6 h2 e4
      subst ev
      refine ⟨a, ns, rfl, SqL.of h1, hl, fun l hn => ?_⟩
      exact ⟨l, _, _, rfl, upd_same, p1 μ1 (.int (ddp ns).length) _ (ztf hn) (r1.fresh hn) (by rw [Rep])⟩
    · rw [if_neg hl] at p1; exact p1.elim
def yh4 (xs : List D) (lo hi : Option Int) : List D := (xs.drop (HT.sIx xs.length 0 lo)).take (HT.sIx xs.length xs.length hi - HT.sIx xs.length 0 lo)
theorem zh8 {xs : List D} {lo hi : Option Int} (h : HT.sIx xs.length 0 lo = 0 /\ HT.sIx xs.length xs.length hi = xs.length) : yh4 xs lo hi = xs := by
  unfold yh4; rw [h.1, h.2]; simp
theorem znu {μ : List Addr} {H : Hp} {xs : List D} {vs : List V} (r : yhu T μ H xs vs) (lo hi : Option Int) : yhu T μ H (yh4 xs lo hi) (yh5 vs lo hi) := by
  unfold yh4 yh5
  rw [r.length]
  exact yhu.take _ (yhu.drop _ r)
end
end L4
namespace HT
open PySem PySem.Spec PyProof.Rows
variable {prog : Program} {w : World} {A : Around} {E : Value -> Shared -> Prop} {s : Shared}
theorem getItem_tuple_all {t sl : Addr} {items : Array Value} {vl vu : Value} {lo hi : Option Int} {Q : Value -> Shared -> Prop} (ht : IsTup s.heap t items) (hs : s.heap.IsSliceOf sl vl vu .none) (pl : IsPart vl lo) (pu : IsPart vu hi)
    (hw : sIx items.size 0 lo = 0 /\ sIx items.size items.size hi = items.size) (h : Q (.ref t) s) : wpAny (model prog w) A (getItem (.ref t) (.ref sl)) Q E s := by
  obtain ⟨os, hos, hcs, hds⟩ := id hs
  have hTs : s.TypeIs (.ref sl) "slice" := ⟨os, hos, hcs⟩
  unfold getItem
  try with_reducible refine wpAny_holding ?_
  first | refine wpAny_bind (wpAny_pure ?_) | skip
  refine wpAny_bind (wpAny_sequenceKey ht.typeIs (by decide) ?_)
  refine wpAny_bind (wpAny_callSpecial?_slot (name := Str.ofString "__getitem__") ht.typeIs PyProof.Rows.slot_tuple_getitem
    (wpAny_call_entry PyProof.Rows.slot_tuple_getitem ht.typeIs entry_tuple_getitem ?_ (args_tuple_getitem _ _)))
  show wpAny _ _ (Builtin.Tuple.tupleItemsOf (.ref t) >>= _) _ _ s
  refine wpAny_bind (tupleItemsOf_ ht ?_)
  refine wpAny_bind (wpAny_typeOf hTs ?_)
  rw [if_pos (by decide)]
  refine wpAny_bind (zbq hs pl pu ?_)
  have hyes : (((sIx items.size 0 lo : Nat) : Int) == 0 && (1 : Int) == 1 && (sIx items.size items.size hi - sIx items.size 0 lo) == items.size) = true := by
    rw [hw.1, hw.2]; simp
  show wpAny _ _ (if (((sIx items.size 0 lo : Nat) : Int) == 0 && (1 : Int) == 1 && (sIx items.size items.size hi - sIx items.size 0 lo) == items.size) = true then _ else _) _ _ s
  rw [if_pos hyes]
  obtain ⟨o, ho, hc, hr⟩ := id ht
  unfold Builtin.Tuple.tupleIsExact
  refine wpAny_bind (wpAny_bind (wpAny_typeOf ht.typeIs ?_))
  refine wpAny_pure ?_
  rw [if_pos (by decide)]
  refine wpAny_bind (wpAny_rule ?_)
  first
    | exact wpAny_pure ⟨_, rfl, wpAny_pure h⟩
    | exact wpAny_pure (wpAny_pure ⟨_, rfl, wpAny_pure h⟩)
    | exact wpAny_bind (wpAny_pure (wpAny_pure ⟨_, rfl, wpAny_pure h⟩))
end HT
namespace L4
open PySem PySem.Spec PyProof.Rows L2
section
variable {T : Tb} {X : Cx}
def rSlA (K : PySem.W.Frag) : V -> Option Int -> Option Int -> Hp -> VK -> Prop := fun x lo hi H Q => ∃ a xs, x = .ref a /\ SqT K H a xs /\ (HT.sIx xs.length 0 lo = 0 /\ HT.sIx xs.length xs.length hi = xs.length) /\ Q (.ref a) H
theorem ydj : SlR X (rSlA X.K) := by
  intro pins s st H x v vl vu lo hi sl Q I rx hs pl pu h
  obtain ⟨a, xs, rfl, hx, hw, q⟩ := h
  cases rx
  obtain ⟨its, r, ht, hz⟩ := I.tuple hx
  have hlen : its.toArray.size = xs.length := by rw [List.size_toArray]; exact r.length.symm
  exact ⟨"tuple", _, PyProof.Rows.slot_tuple_getitem.lookup, ht.typeIs, HT.getItem_tuple_all ht hs pl pu (by rw [hlen]; exact hw) ⟨.ref a, H, I, rfl, q⟩⟩
abbrev PF := Option (Ev -> M D)
def ygl (d : D) : M (Option Int) := match d with
  | .int i => ret (some i)
  | _ => bad
def ye6 (p : PF) : Ev -> M (Option Int) := match p with
  | none => fun _ => ret none
  | some f => fun ρ => bnd (f ρ) ygl
def tP (T : Tb) (X : Cx) (f : Ev -> M (Option Int)) : TO := fun st H Q => ∃ μ ρ σ, yhl T μ H ρ st /\ Rel T μ H σ /\ yhp T (XE X st) (fun _ _ a b => b = a) μ H (f ρ σ) Q
abbrev FO (T : Tb) (X : Cx) (e : Option Expr) (p : PF) : Prop := PO X e (tP T X (ye6 p))
theorem ztt : FO T X none none := by
  intro pins s st H Q I h
  obtain ⟨μ, ρ, σ, hE, hr, hp⟩ := h
  exact zwg pins s st H Q I (yhp.here hp hr rfl)
theorem ztu {e : Expr} {f : Ev -> M D} (he : FE T X e f) : FO T X (some e) (some f) := by
  intro pins s st H Q I h
  refine zwh he pins s st H Q I ?_
  obtain ⟨μ, ρ, σ, hE, hr, hp⟩ := h
  refine ⟨μ, ρ, σ, hE, hr, yhp.bind hp fun d σ1 μ1 v H1 _ e1 r1 q1 p1 => ?_⟩
  cases d with
  | int i => exact ⟨i, yap q1, yhp.here p1 r1 rfl⟩
  | _ => exact p1.elim
def cutO (x : D) (lo hi : Option Int) : M D := fun σ => match x with
  | .tup xs => .ok (.tup (yh4 xs lo hi)) σ
  | .scr ns => .ok (.lst (yh4 (ns.map D.int) lo hi)) σ
  | x => (match yio σ x with
    | some xs => .ok (.lst (yh4 xs lo hi)) σ
    | none => .bad)
def yjt (x : D) (lo : Option Int) (hi : Option Int) : M D := cutO x lo hi
def sl1K (x : D) (hi : M (Option Int)) (lo : Option Int) : M D := bnd hi (yjt x lo)
def sl0K (lo hi : M (Option Int)) (x : D) : M D := bnd lo (sl1K x hi)
def eSl (f : Ev -> M D) (lo hi : PF) : Ev -> M D := fun ρ => bnd (f ρ) (sl0K (ye6 lo ρ) (ye6 hi ρ))
theorem zog {e : Expr} {lo hi : Option Expr} {f : Ev -> M D} {pl ph : PF} {pos p2 : Pos} (hK : T.K = X.K) (he : FE T X e f) (hl : FO T X lo pl) (hh : FO T X hi ph) : FE T X (.Subscript e (.Slice lo hi none p2) pos) (eSl f pl ph) := by
  intro pins s st H Q I h
  refine zqh (SlR.or ydk (SlR.or ydj zxl)) he hl hh pins s st H Q I ?_
  obtain ⟨μ, ρ, σ, hE, hr, hp⟩ := h
  refine ⟨μ, ρ, σ, hE, hr, hp.bind fun d σ1 μ1 v H1 _ e1 r1 q1 p1 => ⟨μ1, ρ, σ1, hE.mono e1, r1, p1.bind fun l σ2 μ2 l' H2 _ e2 r2 q2 p2 => ⟨μ2, ρ, σ2, (hE.mono e1).mono e2, r2, p2.bind fun u σ3 μ3 u' H3 _ e3 r3 q3 p3 => ?_⟩⟩⟩
  have q2' : l' = l := q2
  have q3' : u' = u := q3
  subst q2'; subst q3'
  have rd : Rep T μ3 H3 d v := Rep.mono e3 _ _ (Rep.mono e2 _ _ q1)
  have lists : ∀ ys, yio σ3 d = some ys -> yhp T (XE X st) (Rep T) μ3 H3 (.ok (.lst (yh4 ys l' u')) σ3) Q -> rSlT X.K v l' u' H3 Q \/ rSlA X.K v l' u' H3 Q \/ rSlL X.K v l' u' H3 Q := fun ys ey p4 => by
    obtain ⟨a, vs, rfl, h1, h2⟩ := r3.ls rd ey
    exact .inr (.inr ⟨a, vs, rfl, SqL.of h1, fun p hn => ybm p4 r3 (znu h2 l' u') hn⟩)
  cases d with
  | tup xs =>
    have rd0 := rd
    rw [Rep] at rd
    obtain ⟨p, vs, rfl, h1, h2⟩ := rd
    by_cases hw : HT.sIx vs.length 0 l' = 0 /\ HT.sIx vs.length vs.length u' = vs.length
    · refine .inr (.inl ⟨p, vs, rfl, SqT.of h1, hw, yhp.here (d := D.tup (yh4 xs l' u')) p3 r3 ?_⟩)
      rw [zh8 (by rw [h2.length]; exact hw)]; exact rd0
    · exact .inl ⟨p, vs, rfl, SqT.of h1, hw, fun q hn => zvj p3 r3 (znu h2 l' u') hn⟩
  | ref n =>
    unfold yjt cutO at p3
    dsimp only at p3
    cases ey : yio σ3 (.ref n) with
    | none => rw [ey] at p3; exact p3.elim
    | some ys => rw [ey] at p3; exact lists ys ey p3
  | lst ys => exact lists ys rfl p3
  | scr ns =>
    rw [Rep] at rd
    obtain ⟨p, rfl, h1⟩ := rd
    have h2 := h1.seq
    rw [hK] at h2
    exact .inr (.inr ⟨p, _, rfl, h2, fun p hn => ybm p3 r3 (znu (zmh ns) l' u') hn⟩)
  | _ => exact p3.elim
end
end L4
namespace L4
open PySem PySem.Spec PyProof.Rows L2
def zye (K : PySem.W.Frag) (mg : Str -> Option Value) (x : Str) (st : Stmt) (ps : List Str) (dv : List Value) : Prop :=
  ∃ f fd, mg x = some (.ref f) /\ PySem.W.keepIn K (.ref f) = true /\ (∃ (oc : Value) (od : Option Addr) (dV kV doc pm : Value) (an : Option Addr) (cdv ct : Value) (osl : Array (Option Value)),
    fd = PySem.W.fnOf x x (zs1 st) (zs2 st) (znx st) dV kV doc pm an cdv ct /\ K.lookup f = some ⟨oc, od, .func fd, osl⟩ /\ PySem.W.codeIn K cdv x = true) /\ yd7 K fd ps [] /\ yd7 K fd ps dv
def OkD (T : Tb) (P : Program) (w : World) (mg : Str -> Option Value) (base : Heap) (k : Nat) (x : Str) (ps : List Str) (dv : List Value) (fn : List D -> M D) : Prop :=
  ∃ f fd, mg x = some (.ref f) /\ PySem.W.keepIn T.K (.ref f) = true /\ yd7 T.K fd ps [] /\ yd7 T.K fd ps dv /\ FnOk P w T.K mg base (CXE P w) k f fd ps (spF T ps.length fn)
section
variable {T : Tb} {X : Cx}
theorem zkw {k : Nat} {ps : List Str} {dv : List Value} {dds : List D} {dvs : List V} {fn : List D -> M D} {x : Str} {p pos : Pos} {e : Expr} {es : List Expr} {fs : Ev -> M (List D)} (h : OkD T X.prog X.w X.mg X.base k x ps dv fn) (hK : T.K = X.K) (hr : Room k X.A) (hg : Gl X x) (hv : yhw dvs dv) (hdd : ∀ μ H, yhu T μ H dds dvs)
    (ha : FA T X (e :: es) fs) (hdb : (x == ("__debug__" : Str)) = false := by decide) (he : starEach (e :: es) X.env = (false, eval e X.env) :: starEach es X.env := by rfl) (hpl : (backTo pos (starEach es X.env)).any (·.1) = false := by rfl) :
    FE T X (.Call (.Name x p) (e :: es) [] pos) (eFn ps.length fn dds fs) := by
  obtain ⟨f, fd, hm, hk, _, hb, hF⟩ := h
  rw [hK] at hk hF hb
  exact zth (dds := dds) (dvs := dvs) hF hr hg hm hk hb hv hdd ha hdb he hpl
theorem zrv : yhw [V.non] [Value.none] := .cons rfl .nil
theorem zqu {T : Tb} (μ : List Addr) (H : Hp) : yhu T μ H [D.non] [V.non] := yhu.cons (by rw [Rep]) yhu.nil
variable {P : Program} {w : World} {K : PySem.W.Frag} {mg : Str -> Option Value} {base : Heap} {ca : Nat -> Addr}
theorem yb1 {k : Nat} {x : Str} {st : Stmt} {ps N : List Str} {dv : List Value} {g : Ev -> M Fl} (h : zye K mg x st ps dv) (S : FnScope N ps (znx st))
    (hb : ∀ (f : Addr) (cdv : Value) (A : Around) (outer : List Env) (s : Shared) (H : Hp) (E : XK), Room k (A.deeper (envOfC x (znx st) s.heap.objs.size f cdv)) -> FSs ⟨K, ca⟩ (yh6 (CXE P w) P w K mg base N x (znx st) f cdv A outer s H E) (zs2 st) g) :
    OkD ⟨K, ca⟩ P w mg base (k + 1) x ps dv (run N.length g) := by
  obtain ⟨f, fd, hm, hk, ⟨oc, od, dV, kV, doc, pm, an, cdv, ct, osl, rfl, lk, hcd⟩, b0, b1⟩ := h
  exact ⟨f, _, hm, hk, b0, b1, fok lk hcd S (hb f cdv)⟩
theorem OkD.frz {k : Nat} {x : Str} {ps : List Str} {dv : List Value} {fn : List D -> M D} (h : OkD T P w mg base k x ps dv fn) : OkD T P w mg base k x ps dv (fun ds => L4.frz (fn ds)) := by
  obtain ⟨f, fd, h1, h2, h3, h4, h5⟩ := h
  exact ⟨f, fd, h1, h2, h3, h4, ztv h5⟩
theorem mkFD {h : Heap} {x : Str} {st : Stmt} {ps : List Str} {f t : Addr} {dv : List Value} {oc toc : Value} {od an tod : Option Addr} {osl tsl : Array (Option Value)} {kV doc pm cdv ct : Value} {tn : Nat} (X : K.In h) (G : h.Ns mainGlobals mg)
    (hb : ∀ (t : Addr) (kV doc pm : Value) (an : Option Addr) (cdv ct : Value) (s : Shared) (o : Obj) (n : Nat) (us : List Value), s.heap.get? t = some o -> o.data = .seq dv.toArray n -> ((us ++ []).length = ps.length -> BindsTo s (PySem.W.fnOf x x (zs1 st) (zs2 st) (znx st) (.ref t) kV doc pm an cdv ct) ⟨us, []⟩ (ps.zip (us ++ []))) /\
      ((us ++ dv).length = ps.length -> BindsTo s (PySem.W.fnOf x x (zs1 st) (zs2 st) (znx st) (.ref t) kV doc pm an cdv ct) ⟨us, []⟩ (ps.zip (us ++ dv))))
    (a : PySem.W.nsIn K mainGlobals x = some (some (.ref f))) (l : K.lookup f = some ⟨oc, od, .func (PySem.W.fnOf x x (zs1 st) (zs2 st) (znx st) (.ref t) kV doc pm an cdv ct), osl⟩)
    (c : PySem.W.codeIn K cdv x = true) (k : PySem.W.keepIn K (.ref f) = true) (d : K.lookup t = some ⟨toc, tod, .seq dv.toArray tn, tsl⟩) : zye K mg x st ps dv :=
  ⟨f, _, PySem.W.mg_of X G a, k, ⟨oc, od, _, kV, doc, pm, an, cdv, ct, osl, rfl, l, c⟩, fun s us KX hl => (hb t kV doc pm an cdv ct s _ tn us (KX _ _ d) rfl).1 hl, fun s us KX hl => (hb t kV doc pm an cdv ct s _ tn us (KX _ _ d) rfl).2 hl⟩
end
def yij (l : List (Nat × Bool)) : Nat -> Option Bool := fun c => l.lookup c
abbrev veB : List Value := [.type "ValueError", .type "Exception", .type "BaseException", .type "object"]
def HtOk (K : PySem.W.Frag) (ca : Nat -> Addr) (cv : Value) (l : List (Nat × Bool)) : Prop := ∀ p ∈ l, PySem.W.exmOne K (.ref (ca p.1)) cv = some p.2
theorem yan {K : PySem.W.Frag} {ca : Nat -> Addr} {cv : Value} : HtOk K ca cv [] := fun _ h => nomatch h
theorem zuf {K : PySem.W.Frag} {ca : Nat -> Addr} {cv : Value} {c : Nat} {b : Bool} {l : List (Nat × Bool)} (h : PySem.W.exmOne K (.ref (ca c)) cv = some b) (r : HtOk K ca cv l) : HtOk K ca cv ((c, b) :: l) := fun p hp => by
  rcases List.mem_cons.mp hp with rfl | hp
  · exact h
  · exact r p hp
theorem ya9 : ∀ {l : List (Nat × Bool)} {c : Nat} {b : Bool}, l.lookup c = some b -> (c, b) ∈ l
  | [], _, _, h => by simp at h
  | (n, d) :: r, c, b, h => by
    rw [List.lookup_cons] at h
    cases e : c == n with
    | true => rw [e] at h; cases h; rw [eq_of_beq e]; exact List.mem_cons_self
    | false => rw [e] at h; exact List.mem_cons_of_mem _ (ya9 h)
theorem yfo {K : PySem.W.Frag} {ca : Nat -> Addr} {cv : Value} {l : List (Nat × Bool)} (h : HtOk K ca cv l) : ∀ c b, yij l c = some b -> PySem.W.exmOne K (.ref (ca c)) cv = some b := fun c b e => h (c, b) (ya9 e)
def yi7 (x y : D) : M D := fun σ => match y with
  | .int k => (match yio σ x with
    | some xs => if (decide (0 <= k) && decide (k <= 1000) && decide (xs.length * k.toNat <= cap)) = true then .ok (.lst (List.replicate k.toNat xs).flatten) σ else .bad
    | none => .bad)
  | _ => .bad
theorem zqv {T : Tb} {μ : List Addr} {H : Hp} {xs : List D} {vs : List V} (r : yhu T μ H xs vs) : ∀ n, yhu T μ H (List.replicate n xs).flatten (List.replicate n vs).flatten
  | 0 => yhu.nil
  | n + 1 => by rw [List.replicate_succ, List.replicate_succ, List.flatten_cons, List.flatten_cons]; exact yhu.append r (zqv r n)
theorem zv5 {T : Tb} {X : Cx} : OpR X (binaryOp .Mult) (rD T yi7) := by
  intro pins s st H v u v' u' Q I rv ru h
  obtain ⟨E, μ, σ, x, y, r, hx, hy, hp⟩ := h
  unfold yi7 at hp
  cases y with
  | int k =>
    dsimp only at hp
    cases e : yio σ x with
    | none => rw [e] at hp; exact hp.elim
    | some xs =>
      rw [e] at hp
      dsimp only at hp
      by_cases hc : (decide (0 <= k) && decide (k <= 1000) && decide (xs.length * k.toNat <= cap)) = true
      · rw [if_pos hc] at hp
        simp only [Bool.and_eq_true, decide_eq_true_eq] at hc
        obtain ⟨a, vs, rfl, h1, h2⟩ := r.ls hx e
        exact yce pins s st H _ _ v' u' Q I rv ru ⟨a, k, vs, rfl, yap hy, h1, by omega, by omega, by rw [<- h2.length]; exact zyu hc.2, fun l hl => ybm hp r (zqv h2 k.toNat) hl⟩
      · rw [if_neg hc] at hp; exact hp.elim
  | _ => exact hp.elim
theorem OkF.hide {T : Tb} {P : Program} {w : World} {mg : Str -> Option Value} {base : Heap} {k : Nat} {x : Str} {ps : List Str} {fn : List D -> M D} (h : OkF T P w mg base k x ps fn) : OkF T P w mg base k x ps (L4.hide fn) := by rw [zud]; exact h
theorem OkD.hide {T : Tb} {P : Program} {w : World} {mg : Str -> Option Value} {base : Heap} {k : Nat} {x : Str} {ps : List Str} {dv : List Value} {fn : List D -> M D} (h : OkD T P w mg base k x ps dv fn) : OkD T P w mg base k x ps dv (L4.hide fn) := by rw [zud]; exact h
end L4
namespace L4
open PySem PySem.Spec PyProof.Rows L2
section
variable {T : Tb} {X : Cx} {μ : List Addr} {H : Hp} {σ : Sto}
def yfp (σ : Sto) : D -> Option (Nat × List (Str × D))
  | .obj c ns ds => if ns.length = ds.length then some (c, ns.zip ds) else none
  | .ref n => match σ[n]? with
    | some (.ins c fs) => some (c, fs)
    | _ => none
  | _ => none
theorem zqq : ∀ {ns : List Str} {ds : List D} {fs : List (Str × V)}, fs.map (·.1) = ns -> yhu T μ H ds (fs.map (·.2)) -> yhs T μ H (ns.zip ds) fs
  | [], ds, [], _, h => by
    rw [List.map_nil] at h
    cases ds with
    | nil => exact Paired.nil
    | cons d ds => have := h.length; simp at this
  | [], ds, f :: fs, e, _ => by simp at e
  | n :: ns, ds, [], e, _ => by simp at e
  | n :: ns, [], f :: fs, e, h => by have := h.length; simp at this
  | n :: ns, d :: ds, f :: fs, e, h => by
    simp only [List.map_cons, List.cons.injEq] at e
    rw [List.map_cons, yhu] at h
    obtain ⟨v, r, e2, h1, h2⟩ := h
    simp only [List.cons.injEq] at e2
    obtain ⟨e3, e4⟩ := e2
    subst e4
    exact Paired.cons ⟨e.1.symm, by rw [e3]; exact h1⟩ (zqq e.2 h2)
theorem zul (r : Rel T μ H σ) {d : D} {v : V} {c : Nat} {fs : List (Str × D)} (h : Rep T μ H d v) (e : yfp σ d = some (c, fs)) : ∃ a dx vs, v = .ref a /\ H a = some (.ins (T.ca c) dx vs) /\ yhs T μ H fs vs := by
  cases d with
  | obj c' ns ds =>
    unfold yfp at e
    by_cases hl : ns.length = ds.length
    · simp only [hl, if_true, Option.some.injEq, Prod.mk.injEq] at e
      obtain ⟨rfl, rfl⟩ := e
      rw [Rep] at h
      obtain ⟨a, dx, vs, rfl, _, h3, h4, h5⟩ := h
      exact ⟨a, dx, vs, rfl, h3, zqq h4 h5⟩
    · simp [hl] at e
  | ref n =>
    unfold yfp at e; dsimp only at e
    cases es : σ[n]? with
    | none => rw [es] at e; cases e
    | some o =>
      rw [es] at e
      obtain ⟨a, rfl, _, h2⟩ := r.at h es
      cases o with
      | ins c' fs' => cases e; obtain ⟨dx, vs, h3, h4⟩ := h2; exact ⟨a, dx, vs, rfl, h3, h4⟩
      | lst _ => cases e
      | dic _ => cases e
  | _ => cases e
theorem zpk {f : Str} : ∀ {fs : List (Str × D)} {vs : List (Str × V)}, yhs T μ H fs vs -> (∀ d, fs.lookup f = some d -> ∃ v, vs.lookup f = some v /\ Rep T μ H d v) /\ (fs.lookup f = none -> vs.lookup f = none)
  | _, _, .nil => ⟨fun d e => by simp at e, fun _ => rfl⟩
  | (g, x) :: fs, (g', v) :: vs, .cons ⟨e, h⟩ t => by
    have e' : g = g' := e
    subst e'
    obtain ⟨h1, h2⟩ := zpk t
    by_cases hg : (f == g) = true
    · refine ⟨fun d q => ?_, fun q => ?_⟩
      · rw [List.lookup_cons, hg] at q; cases q
        exact ⟨v, by rw [List.lookup_cons, hg], h⟩
      · rw [List.lookup_cons, hg] at q; cases q
    · have hg' : (f == g) = false := by simpa using hg
      refine ⟨fun d q => ?_, fun q => ?_⟩
      · rw [List.lookup_cons, hg'] at q
        obtain ⟨w, q1, q2⟩ := h1 d q
        exact ⟨w, by rw [List.lookup_cons, hg']; exact q1, q2⟩
      · rw [List.lookup_cons, hg'] at q
        rw [List.lookup_cons, hg']; exact h2 q
def yea (T : Tb) (cs : List Nat) (f : Str) : Prop := ∀ c, cs.contains c = true -> Cls T.K (T.ca c) /\ zyf T.K (T.ca c) f
theorem zts {f : Str} : yea T [] f := fun c h => by simp at h
theorem zoo {f : Str} {c : Nat} {cs : List Nat} (h1 : Cls T.K (T.ca c)) (h2 : zyf T.K (T.ca c) f) (h : yea T cs f) : yea T (c :: cs) f := fun d hd => by
  rw [List.contains_cons, Bool.or_eq_true, beq_iff_eq] at hd
  rcases hd with rfl | hd
  · exact ⟨h1, h2⟩
  · exact h d hd
def yix (cs : List Nat) (f : Str) (x : D) : M D := fun σ => match yfp σ x with
  | some (c, fs) => if cs.contains c = true then (match fs.lookup f with
    | some d => .ok d σ
    | none => .bad) else .bad
  | none => .bad
theorem zzl {e : Expr} {f : Str} {g : Ev -> M D} {pos : Pos} {cs : List Nat} (hK : T.K = X.K) (hc : yea T cs f) (he : FE T X e g)
    (hb : attributeBase e f X.env (eval e X.env) = eval e X.env := by rfl) : FE T X (.Attribute e f pos) (eUn (yix cs f) g) := by
  intro pins s st H Q I h
  refine ycj he hb pins s st H Q I ?_
  obtain ⟨μ, ρ, σ, hE, hr, hp⟩ := h
  refine ⟨μ, ρ, σ, hE, hr, yhp.bind hp fun d σ1 μ1 v H1 _ e1 r1 q1 p1 => ?_⟩
  unfold yix at p1
  cases ei : yfp σ1 d with
  | none => rw [ei] at p1; exact p1.elim
  | some p =>
    obtain ⟨c, fs⟩ := p
    rw [ei] at p1; dsimp only at p1
    by_cases hcc : cs.contains c = true
    · rw [if_pos hcc] at p1
      obtain ⟨a, dx, vs, rfl, h1, h2⟩ := zul r1 q1 ei
      cases el : fs.lookup f with
      | none => rw [el] at p1; exact p1.elim
      | some y =>
        rw [el] at p1
        obtain ⟨w, h3, h4⟩ := (zpk h2).1 y el
        obtain ⟨k1, k2⟩ := hc c hcc
        rw [hK] at k1 k2
        exact ⟨a, _, dx, vs, w, rfl, h1, k1, k2, h3, yhp.here p1 r1 h4⟩
    · rw [if_neg hcc] at p1; exact p1.elim
def yjc (f : Str) (v : D) : List (Str × D) -> List (Str × D)
  | [] => [(f, v)]
  | (g, x) :: r => if g = f then (g, v) :: r else (g, x) :: yjc f v r
theorem zwr {f : Str} {d : D} {v : V} (hd : Rep T μ H d v) : ∀ {fs : List (Str × D)} {vs : List (Str × V)}, yhs T μ H fs vs -> yhs T μ H (yjc f d fs) (yjd f v vs)
  | _, _, .nil => Paired.cons ⟨rfl, hd⟩ Paired.nil
  | (g, x) :: fs, (g', w) :: vs, .cons ⟨e, h⟩ t => by
    have e' : g = g' := e
    subst e'
    unfold yjc yjd
    by_cases hg : g = f
    · rw [if_pos hg, if_pos hg]; exact Paired.cons ⟨rfl, hd⟩ t
    · rw [if_neg hg, if_neg hg]; exact Paired.cons ⟨rfl, h⟩ (zwr hd t)
theorem yhs.mono {μ' : List Addr} {H' : Hp} (e : Ext μ H μ' H') {fs : List (Str × D)} {vs : List (Str × V)} (h : yhs T μ H fs vs) : yhs T μ' H' fs vs := Paired.mapP h fun _ _ q => ⟨q.1, Rep.mono e _ _ q.2⟩
theorem yhs.length {fs : List (Str × D)} {vs : List (Str × V)} (h : yhs T μ H fs vs) : fs.length = vs.length := Paired.length h
def yi6 (cs : List Nat) (f : Str) (d x : D) : M Unit := fun σ => match x with
  | .ref n => (match σ[n]? with
    | some (.ins c fs) => if (cs.contains c && decide (fs.length < 1000)) = true then .ok () (σ.set n (.ins c (yjc f d fs))) else .bad
    | _ => .bad)
  | _ => .bad
def ygp (ρ : Ev) (cs : List Nat) (f : Str) (d x : D) : M Fl := fun σ => match yi6 cs f d x σ with
  | .ok _ σ' => .ok (.nx ρ) σ'
  | _ => .bad
def ygo (ρ : Ev) (cs : List Nat) (f : Str) (fo : Ev -> M D) (d : D) : M Fl := xs ρ (fo ρ) (ygp ρ cs f d)
def yjn (cs : List Nat) (f : Str) (fv fo : Ev -> M D) : Ev -> M Fl := fun ρ => xs ρ (fv ρ) (ygo ρ cs f fo)
theorem zz8 {o value : Expr} {f : Str} {fv fo : Ev -> M D} {pos pos' : Pos} {cs : List Nat} (hK : T.K = X.K) (hc : yea T cs f) (ho : FE T X o fo) (hv : FE T X value fv)
    (hs : swapsWith value (some (.Attribute o f pos')) pos.line X.env = pure false := by rfl) : FS T X (.Assign [.Attribute o f pos'] value pos) (yjn cs f fv fo) := by
  intro pins s st H D I hq
  refine ycy ho hv hs pins s st H D I ?_
  obtain ⟨μ, ρ, σ, hE, hr, hp⟩ := hq
  refine ⟨μ, ρ, σ, hE, hr, hp.xs hE fun d σ1 μ1 v H1 _ e1 r1 q1 p1 => ?_⟩
  refine ⟨μ1, ρ, σ1, hE.mono e1, r1, p1.xs (hE.mono e1) fun x σ2 μ2 vo H2 _ e2 r2 q2 p2 => ?_⟩
  have hd := Rep.mono e2 _ _ q1
  unfold ygp yi6 at p2
  cases x with
  | ref n =>
    dsimp only at p2
    cases el : σ2[n]? with
    | none => rw [el] at p2; exact p2.elim
    | some ob =>
      rw [el] at p2
      cases ob with
      | lst _ => exact p2.elim
      | dic _ => exact p2.elim
      | ins c fs =>
        dsimp only at p2
        by_cases hcc : (cs.contains c && decide (fs.length < 1000)) = true
        · rw [if_pos hcc] at p2
          rw [Bool.and_eq_true, decide_eq_true_eq] at hcc
          obtain ⟨a, rfl, hn, dx, vs, h1, h2⟩ := r2.at q2 el
          have ex : Ext μ2 H2 μ2 (upd H2 a (.ins (T.ca c) dx (yjd f v vs))) := zkv (List.mem_of_getElem? hn) h1 (fun _ z => by cases z) (fun _ _ z => by cases z)
          have wr := r2.write (o := .ins (T.ca c) dx (yjd f v vs)) (ob := .ins c (yjc f d fs)) hn ⟨dx, _, upd_same, zwr (Rep.mono ex _ _ hd) (yhs.mono ex h2)⟩
          obtain ⟨k1, k2⟩ := hc c hcc.1
          rw [hK] at k1 k2
          exact ⟨a, _, dx, vs, rfl, h1, k1, k2, by rw [<- h2.length]; exact hcc.2, p2 _ (.nx st) _ wr.1 wr.2 ((hE.mono e1).mono e2 |>.mono wr.1)⟩
        · rw [if_neg hcc] at p2; exact p2.elim
  | _ => exact p2.elim
def yf7 (n : Nat) : Out D -> Out D
  | .ok .non σ' => .ok (.ref n) σ'
  | .ok _ _ => .bad
  | .ex x σ' => .ex x σ'
  | .bad => .bad
def yfz (c n : Nat) (fn : List D -> M D) (ds : List D) : M D := fun σ => if ds.length + 1 = n then yf7 σ.length (fn (.ref σ.length :: ds) (σ ++ [.ins c []])) else .bad
def ye4 (c n : Nat) (fn : List D -> M D) (fs : Ev -> M (List D)) : Ev -> M D := fun ρ => bnd (fs ρ) (yfz c n fn)
def OkA (T : Tb) (P : Program) (w : World) (mg : Str -> Option Value) (base : Heap) (k : Nat) (f : Addr) (ps : List Str) (fn : List D -> M D) : Prop :=
  ∃ fd, (∀ us : List Value, us.length = ps.length -> bindArgs fd ⟨us, []⟩ = pure (ps.zip us)) /\ FnOk P w T.K mg base (CXE P w) k f fd ps (spF T ps.length fn)
def OkC (T : Tb) (P : Program) (w : World) (mg : Str -> Option Value) (base : Heap) (k : Nat) (x : Str) (c : Nat) (ps : List Str) (fn : List D -> M D) : Prop :=
  ∃ f, mg x = some (.ref (T.ca c)) /\ Mk T.K (T.ca c) f /\ OkA T P w mg base k f ps fn
theorem zlr {E : XK} {c : Nat} {ps : List Str} {fn : List D -> M D} {ds : List D} {vs : List V} {Q : VK} (r : Rel T μ H σ) (q : yhu T μ H ds vs) (p : yhp T E (Rep T) μ H (yfz c ps.length fn ds σ) Q) :
    ∀ x dx, H x = none -> H dx = none -> dx ≠ x -> spF T ps.length fn (.ref x :: (vs ++ [])) (upd (upd H dx (.own x)) x (.ins (T.ca c) dx [])) (fun v H2 => v = .non /\ Q (.ref x) H2) E := by
  intro x dx hx hdx hne
  unfold yfz at p
  by_cases hl : ds.length + 1 = ps.length
  · rw [if_pos hl] at p
    have ex1 : Ext μ H μ (upd H dx (.own x)) := ztf hdx
    have r1 : Rel T μ (upd H dx (.own x)) σ := r.fresh hdx
    have hx1 : upd H dx (.own x) x = none := by unfold upd; rw [if_neg (Ne.symm hne)]; exact hx
    have ex2 : Ext μ (upd H dx (.own x)) (μ ++ [x]) (upd (upd H dx (.own x)) x (.ins (T.ca c) dx [])) := zn8 hx1
    have r2 : Rel T (μ ++ [x]) (upd (upd H dx (.own x)) x (.ins (T.ca c) dx [])) (σ ++ [.ins c []]) := r1.push hx1 ⟨dx, [], upd_same, Paired.nil⟩
    refine ⟨μ ++ [x], σ ++ [.ins c []], .ref σ.length :: ds, yhu.cons (zqr r1) (by rw [List.append_nil]; exact yhu.mono (ex1.trans ex2) _ _ q), by rw [List.length_cons]; exact hl, r2, ?_⟩
    cases e : fn (.ref σ.length :: ds) (σ ++ [.ins c []]) with
    | bad => rw [e] at p; exact p.elim
    | ex y σ' => rw [e] at p; exact fun μ' H' e' r' => p μ' H' ((ex1.trans ex2).trans e') r'
    | ok d σ' =>
      rw [e] at p
      intro μ' v H' e' r' q'
      have hv : d = .non := by cases d <;> first | rfl | exact p.elim
      subst hv
      rw [Rep] at q'
      refine ⟨q', p μ' (.ref x) H' ((ex1.trans ex2).trans e') r' ?_⟩
      exact Rep.mono e' _ _ (zqr r1)
  · rw [if_neg hl] at p; exact p.elim
theorem zmi {k : Nat} {C f : Addr} {fd : FuncData} {ps : List Str} {sp : Sp} {dvs : List V} {ds : List Value} {pins : List (Addr × Obj)} {st : St} {H : Hp} {s : Shared} {Q : VK} {us : List Value} {vs : List V} (M : Mk X.K C f) (F : FnOk X.prog X.w X.K X.mg X.base (CXE X.prog X.w) k f fd ps sp) (hr : Room (k + 1) X.A) (hb : yd7 X.K fd ps ds) (hd : yhw dvs ds)
    (I : Inv X pins st H s) (r : yhw vs us)
    (h : ∀ x dx, H x = none -> H dx = none -> dx ≠ x -> sp (.ref x :: (vs ++ dvs)) (upd (upd H dx (.own x)) x (.ins C dx [])) (fun v H2 => v = .non /\ Q (.ref x) H2) (XE X st)) :
    wpAny (model X.prog X.w) X.A (call (.ref C) us) (EP X pins st Q) X.xe s := by
  have hq := h (s.heap.objs.size + 1) s.heap.objs.size (I.hok.fresh (Nat.le_succ _)) (I.hok.fresh (Nat.le_refl _)) (Nat.ne_of_lt (Nat.lt_succ_self _))
  have I2 := Inv.made (C := C) I
  have r2 : yhw (V.ref (s.heap.objs.size + 1) :: (vs ++ dvs)) (Value.ref (s.heap.objs.size + 1) :: (us ++ ds)) := .cons rfl (r.append hd)
  have hl : (Value.ref (s.heap.objs.size + 1) :: us ++ ds).length = ps.length := by
    have e := r2.length
    rw [F.len _ _ _ _ hq] at e
    exact e.symm
  refine wpAny_call (zpp (f := f) I.kIn M.makes M.init (beq_iff_eq.mp M.fn) (codeAny_mono (F.run _ X.stack _ _ ⟨Value.ref (s.heap.objs.size + 1) :: us, []⟩ (Value.ref (s.heap.objs.size + 1) :: (us ++ ds)) _ _ (XE X st) (hr.make C us [])
    (I2.env0.make C us []) (hb _ (Value.ref (s.heap.objs.size + 1) :: us) I2.kIn hl) r2 hq) fun r s' hq' => ?_))
  cases r with
  | error e => obtain ⟨cls, H', hfly, ht⟩ := hq'; exact ht.fly pins _ _ e s' I2 hfly
  | ok fl =>
    cases fl with
    | ret u =>
      obtain ⟨v, H', I3, rv, ev, q3⟩ := I2.after hq'
      subst ev
      exact ⟨rv, ⟨V.ref (s.heap.objs.size + 1), H', I3, rfl, q3⟩⟩
    | next => exact False.elim hq'
    | brk => exact False.elim hq'
    | cont => exact False.elim hq'
theorem ztk {k c : Nat} {ps : List Str} {fn : List D -> M D} {x : Str} {p pos : Pos} {e : Expr} {es : List Expr} {fs : Ev -> M (List D)} (h : OkC T X.prog X.w X.mg X.base k x c ps fn) (hK : T.K = X.K) (hr : Room (k + 1) X.A) (hg : Gl X x)
    (ha : FA T X (e :: es) fs) (hdb : (x == ("__debug__" : Str)) = false := by decide) (he : starEach (e :: es) X.env = (false, eval e X.env) :: starEach es X.env := by rfl) (hpl : (backTo pos (starEach es X.env)).any (·.1) = false := by rfl) :
    FE T X (.Call (.Name x p) (e :: es) [] pos) (ye4 c ps.length fn fs) := by
  obtain ⟨f, hm, hM, fd, hb, hF⟩ := h
  rw [hK] at hM hF
  intro pins s st H Q I hq
  obtain ⟨μ, ρ, σ, hE, hr', hp⟩ := hq
  refine wpAny_Call_Name_kw (zuw I hg hm ?_ hdb)
  refine PySem.W.callWith_K (h₀ := X.base) I.ok.mod.kin hM.kp (thn (ha pos pins s st H (fun vs H1 => ∀ x dx, H1 x = none -> H1 dx = none -> dx ≠ x -> spF T ps.length fn (.ref x :: (vs ++ [])) (upd (upd H1 dx (.own x)) x (.ins (T.ca c) dx [])) (fun v H2 => v = .non /\ Q (.ref x) H2) (XE X st)) I ⟨μ, ρ, σ, hE, hr', hp.bind fun ds σ1 μ1 vs H1 _ e1 r1 p1 q1 => zlr r1 p1 q1⟩) fun us s1 ⟨vs, H1, I1, r, q⟩ => ⟨I1.kIn, ?_⟩) he hpl
  exact zmi (ds := []) (dvs := []) hM hF hr (.all hb) .nil I1 r q
structure OkM (T : Tb) (P : Program) (w : World) (mg : Str -> Option Value) (base : Heap) (k : Nat) (m : Str) (c : Nat) (ps : List Str) (fn : List D -> M D) : Prop where
  cl : Cls T.K (T.ca c)
  ex : ∃ f, Meth T.K (T.ca c) m f /\ OkA T P w mg base k f ps fn
abbrev Mt := List (Nat × (List D -> M D))
def lkM : Mt -> Nat -> Option (List D -> M D)
  | [], _ => none
  | (c, fn) :: r, d => if c == d then some fn else lkM r d
def yf3 (n : Nat) (fn : List D -> M D) (x : D) (ds : List D) : M D := if ds.length + 1 = n then fn (x :: ds) else bad
def yir (tb : Mt) (n : Nat) (m : Str) (fs : M (List D)) (x : D) : M D := fun σ => match yfp σ x with
  | some (c, gs) => (match lkM tb c, gs.lookup m with
    | some fn, none => bnd fs (yf3 n fn x) σ
    | _, _ => .bad)
  | none => .bad
def yid (tb : Mt) (n : Nat) (m : Str) (f : Ev -> M D) (fs : Ev -> M (List D)) : Ev -> M D := fun ρ => bnd (f ρ) (yir tb n m (fs ρ))
theorem zu1 : ∀ {tb : Mt} {c : Nat} {fn : List D -> M D}, lkM tb c = some fn -> (c, fn) ∈ tb
  | [], _, _, h => by cases h
  | (d, g) :: r, c, fn, h => by
    unfold lkM at h
    by_cases e : (d == c) = true
    · rw [if_pos e] at h; cases h
      rw [beq_iff_eq.mp e]; exact List.mem_cons_self
    · rw [if_neg e] at h; exact List.mem_cons_of_mem _ (zu1 h)
theorem zzs {pl : Sem Bool} {k : Nat} {tb : Mt} {ps : List Str} {m : Str} {o e : Expr} {es : List Expr} {f : Ev -> M D} {fs : Ev -> M (List D)} {pos apos : Pos} (hK : T.K = X.K) (he : FE T X o f) (h : ∀ q ∈ tb, OkM T X.prog X.w X.mg X.base k m q.1 ps q.2) (hr : Room k X.A) (ha : FA T X (e :: es) fs)
    (hst : starEach (e :: es) X.env = (false, eval e X.env) :: starEach es X.env := by rfl) (hpl : (backTo pos (starEach es X.env)).any (·.1) = false := by rfl)
    (ht : eval (.Call (.Attribute o m apos) (e :: es) [] pos) X.env = (do
      let ov <- eval o X.env
      standAt apos.atName
      let (f, first) <- holding [ov] (getMethod ov m pl)
      callWith pos f first (backTo pos (starEach (e :: es) X.env)) (backToKw pos (keywordEach [] X.env))) := by rfl) :
    FE T X (.Call (.Attribute o m apos) (e :: es) [] pos) (yid tb ps.length m f fs) := by
  intro pins s st H Q I hq
  obtain ⟨μ, ρ, σ, hE, hr', hp⟩ := hq
  have hE' := hE
  refine PySem.W.methodCall_KW (pl := pl) (thn (he pins s st H (fun x H1 => ∃ a c dx vs fn, x = .ref a /\ H1 a = some (.ins (T.ca c) dx vs) /\ lkM tb c = some fn /\ vs.lookup m = none /\ tL T X fs st H1 fun us H2 => spF T ps.length fn (x :: (us ++ [])) H2 Q (XE X st)) I ⟨μ, ρ, σ, hE, hr', hp.bind fun d σ1 μ1 v H1 _ e1 r1 q1 p1 => ?_⟩) fun u s1 ⟨x, H1, I1, rx, a, c, dx, vs, fn, ex, ea, el, en, q⟩ => ?_) ht
  · unfold yir at p1
    cases ei : yfp σ1 d with
    | none => rw [ei] at p1; exact p1.elim
    | some z =>
      obtain ⟨c, gs⟩ := z
      rw [ei] at p1; dsimp only at p1
      cases el : lkM tb c with
      | none => rw [el] at p1; exact p1.elim
      | some fn =>
        cases en : gs.lookup m with
        | some y => rw [el, en] at p1; exact p1.elim
        | none =>
          rw [el, en] at p1; dsimp only at p1
          obtain ⟨a, dx, vs, rfl, h1, h2⟩ := zul r1 q1 ei
          refine ⟨a, c, dx, vs, fn, rfl, h1, el, (zpk h2).2 en, μ1, ρ, σ1, hE'.mono e1, r1, p1.bind fun ds σ2 μ2 us H2 _ e2 r2 q2 p2 => ?_⟩
          unfold yf3 at p2
          by_cases hl : ds.length + 1 = ps.length
          · rw [if_pos hl] at p2
            exact ⟨μ2, σ2, d :: ds, yhu.cons (Rep.mono e2 _ _ q1) (by rw [List.append_nil]; exact q2), by rw [List.length_cons]; exact hl, r2, p2⟩
          · rw [if_neg hl] at p2; exact p2.elim
  · subst ex
    obtain rfl : u = Value.ref a := rx
    obtain ⟨hC, f', hM, fd, hb, hF⟩ := h _ (zu1 el)
    rw [hK] at hC hM hF
    refine zil I1 ea hC hM en ?_
    refine PySem.W.callWith_K (first := [.ref a]) (h₀ := X.base) I.ok.mod.kin hM.kp (thn (ha pos pins s1 st H1 _ I1 q) fun us s2 ⟨vs, H2, I2, r, q2⟩ => ⟨I2.kIn, ?_⟩) hst hpl
    exact zwy (us := .ref a :: us) (vs := .ref a :: vs) hF hr (.all hb) .nil I2 (.cons rfl r) q2
theorem ztm {pl : Sem Bool} {k : Nat} {tb : Mt} {ps : List Str} {m : Str} {o : Expr} {f : Ev -> M D} {pos apos : Pos} (hK : T.K = X.K) (he : FE T X o f) (h : ∀ q ∈ tb, OkM T X.prog X.w X.mg X.base k m q.1 ps q.2) (hr : Room k X.A)
    (ht : eval (.Call (.Attribute o m apos) [] [] pos) X.env = (do
      let ov <- eval o X.env
      standAt apos.atName
      let (f, first) <- holding [ov] (getMethod ov m pl)
      callWith pos f first (backTo pos (starEach [] X.env)) (backToKw pos (keywordEach [] X.env))) := by rfl) :
    FE T X (.Call (.Attribute o m apos) [] [] pos) (yid tb ps.length m f yhx) := by
  intro pins s st H Q I hq
  obtain ⟨μ, ρ, σ, hE, hr', hp⟩ := hq
  refine PySem.W.methodCall_KW (pl := pl) (thn (he pins s st H (fun x H1 => ∃ a c dx vs fn, x = .ref a /\ H1 a = some (.ins (T.ca c) dx vs) /\ lkM tb c = some fn /\ vs.lookup m = none /\ spF T ps.length fn (x :: ([] ++ [])) H1 Q (XE X st)) I ⟨μ, ρ, σ, hE, hr', hp.bind fun d σ1 μ1 v H1 _ e1 r1 q1 p1 => ?_⟩) fun u s1 ⟨x, H1, I1, rx, a, c, dx, vs, fn, ex, ea, el, en, q⟩ => ?_) ht
  · unfold yir at p1
    cases ei : yfp σ1 d with
    | none => rw [ei] at p1; exact p1.elim
    | some z =>
      obtain ⟨c, gs⟩ := z
      rw [ei] at p1; dsimp only at p1
      cases el : lkM tb c with
      | none => rw [el] at p1; exact p1.elim
      | some fn =>
        cases en : gs.lookup m with
        | some y => rw [el, en] at p1; exact p1.elim
        | none =>
          rw [el, en] at p1; dsimp only at p1
          obtain ⟨a, dx, vs, rfl, h1, h2⟩ := zul r1 q1 ei
          have p2 : yhp T (XE X st) (Rep T) μ1 H1 (yf3 ps.length fn d [] σ1) Q := p1
          unfold yf3 at p2
          by_cases hl : ([] : List D).length + 1 = ps.length
          · rw [if_pos hl] at p2
            exact ⟨a, c, dx, vs, fn, rfl, h1, el, (zpk h2).2 en, μ1, σ1, [d], yhu.cons q1 yhu.nil, hl, r1, p2⟩
          · rw [if_neg hl] at p2; exact p2.elim
  · subst ex
    obtain rfl : u = Value.ref a := rx
    obtain ⟨hC, f', hM, fd, hb, hF⟩ := h _ (zu1 el)
    rw [hK] at hC hM hF
    refine zil I1 ea hC hM en ?_
    exact PySem.W.callWith_K0 (first := [.ref a]) I1.kIn hM.kp (zwy (us := [.ref a]) (vs := [.ref a]) hF hr (.all hb) .nil I1 (.cons rfl .nil) q)
structure OkU (T : Tb) (P : Program) (w : World) (mg : Str -> Option Value) (base : Heap) (k : Nat) (x m : Str) (c : Nat) (ps : List Str) (fn : List D -> M D) : Prop where
  gl : mg x = some (.ref (T.ca c))
  sp : PySem.W.specialIn T.K (.ref (T.ca c)) (Str.ofString "__getattribute__") = some (some (.builtin "type.__getattribute__"))
  ex : ∃ f mc, PySem.W.readsIn T.K (T.ca c) mc = true /\ PySem.W.findCls T.K (.ref (T.ca c)) mc m = some (.val (.ref f)) /\ PySem.W.keepIn T.K (.ref f) = true /\ OkA T P w mg base k f ps fn
theorem zoh {pl : Sem Bool} {k c : Nat} {ps : List Str} {fn : List D -> M D} {x m : Str} {p pos apos : Pos} {e : Expr} {es : List Expr} {fs : Ev -> M (List D)} (h : OkU T X.prog X.w X.mg X.base k x m c ps fn) (hK : T.K = X.K) (hr : Room k X.A) (hg : Gl X x) (ha : FA T X (e :: es) fs)
    (hdb : (x == ("__debug__" : Str)) = false := by decide) (hst : starEach (e :: es) X.env = (false, eval e X.env) :: starEach es X.env := by rfl) (hpl : (backTo pos (starEach es X.env)).any (·.1) = false := by rfl)
    (ht : eval (.Call (.Attribute (.Name x p) m apos) (e :: es) [] pos) X.env = (do
      let ov <- eval (.Name x p) X.env
      standAt apos.atName
      let (f, first) <- holding [ov] (getMethod ov m pl)
      callWith pos f first (backTo pos (starEach (e :: es) X.env)) (backToKw pos (keywordEach [] X.env))) := by rfl) :
    FE T X (.Call (.Attribute (.Name x p) m apos) (e :: es) [] pos) (eFn ps.length fn [] fs) := by
  intro pins s st H Q I hq
  obtain ⟨μ, ρ, σ, hE, hr', hp⟩ := hq
  obtain ⟨hm, hsp, f, mc, h1, h2, h3, fd, hb, hF⟩ := h
  rw [hK] at hsp h1 h2 h3 hF
  refine PySem.W.methodCall_KW (pl := pl) (zuw I hg hm ?_ hdb) ht
  refine PySem.W.method_cls I.kIn hsp (PySem.W.cls_value I.kIn h1 h2 rfl ?_)
  have I1 := I.tok (s.toks + 1)
  refine PySem.W.callWith_K (first := []) (h₀ := X.base) I.ok.mod.kin h3 (thn (ha pos pins _ st H (fun vs H1 => spF T ps.length fn (vs ++ []) H1 Q (XE X st)) I1 ⟨μ, ρ, σ, hE, hr', hp.bind fun ds σ1 μ1 vs H1 _ e1 r1 p1 q1 => ?_⟩) fun us s2 ⟨vs, H2, I2, r, q2⟩ => ⟨I2.kIn, ?_⟩) hst hpl
  · unfold fnK at q1
    by_cases hl : (ds ++ []).length = ps.length
    · rw [if_pos hl] at q1
      exact ⟨μ1, σ1, ds ++ [], p1.append yhu.nil, hl, r1, q1⟩
    · rw [if_neg hl] at q1; exact q1.elim
  · exact zwy hF hr (.all hb) .nil I2 r q2
end
structure HasM (K : PySem.W.Frag) (C : Addr) (x qual : Str) (st : Stmt) (ps : List Str) (f : Addr) : Prop where
  ex : ∃ fd, Fun K x qual st f fd /\ ∀ us : List Value, us.length = ps.length -> bindArgs fd ⟨us, []⟩ = pure (ps.zip us)
section
variable {P : Program} {w : World} {K : PySem.W.Frag} {mg : Str -> Option Value} {base : Heap} {ca : Nat -> Addr}
theorem yby {k : Nat} {C f : Addr} {x qual : Str} {st : Stmt} {ps N : List Str} {g : Ev -> M Fl} (h : HasM K C x qual st ps f) (S : FnScope N ps (znx st))
    (hb : ∀ (cdv : Value) (A : Around) (outer : List Env) (s : Shared) (H : Hp) (E : XK), Room k (A.deeper (envOfC qual (znx st) s.heap.objs.size f cdv)) -> FSs ⟨K, ca⟩ (yh6 (CXE P w) P w K mg base N qual (znx st) f cdv A outer s H E) (zs2 st) g) :
    OkA ⟨K, ca⟩ P w mg base (k + 1) f ps (run N.length g) := by
  obtain ⟨fd, F, hbd⟩ := h.ex
  obtain ⟨oc, od, kV, doc, pm, an, cdv, ct, osl, rfl, lk, hcd⟩ := F.ex
  exact ⟨_, hbd, fok lk hcd S (hb cdv)⟩
theorem OkA.frz {T : Tb} {k : Nat} {f : Addr} {ps : List Str} {fn : List D -> M D} (h : OkA T P w mg base k f ps fn) : OkA T P w mg base k f ps (fun ds => L4.frz (fn ds)) := by
  obtain ⟨fd, h3, h4⟩ := h
  exact ⟨fd, h3, ztv h4⟩
theorem OkA.hide {T : Tb} {k : Nat} {f : Addr} {ps : List Str} {fn : List D -> M D} (h : OkA T P w mg base k f ps fn) : OkA T P w mg base k f ps (L4.hide fn) := by rw [zud]; exact h
end
def yf4 (s : Stmt) (j : Nat) : Stmt := match s with
  | .ClassDef _ _ _ b _ _ _ _ _ _ _ => b.getD j (.Pass ⟨0, 0, 0, 0⟩)
  | s => s
theorem mkM {K : PySem.W.Frag} {C f : Addr} {x qual : Str} {st : Stmt} {ps : List Str} {oc : Value} {od an : Option Addr} {osl : Array (Option Value)} {kV doc pm cdv ct : Value}
    (hb : ∀ (kV doc pm : Value) (an : Option Addr) (cdv ct : Value) (us : List Value), us.length = ps.length -> bindArgs (PySem.W.fnOf x qual (zs1 st) (zs2 st) (znx st) .none kV doc pm an cdv ct) ⟨us, []⟩ = pure (ps.zip us))
    (l : K.lookup f = some ⟨oc, od, .func (PySem.W.fnOf x qual (zs1 st) (zs2 st) (znx st) .none kV doc pm an cdv ct), osl⟩)
    (c : PySem.W.codeIn K cdv qual = true) (k : PySem.W.keepIn K (.ref f) = true) : HasM K C x qual st ps f := ⟨⟨_, yag l c k, hb kV doc pm an cdv ct⟩⟩
section
variable {T : Tb} {P : Program} {w : World} {mg : Str -> Option Value} {base : Heap}
def MtOk (T : Tb) (P : Program) (w : World) (mg : Str -> Option Value) (base : Heap) (k : Nat) (m : Str) (ps : List Str) (tb : Mt) : Prop := ∀ q ∈ tb, OkM T P w mg base k m q.1 ps q.2
theorem ybj {k : Nat} {m : Str} {ps : List Str} : MtOk T P w mg base k m ps [] := fun q h => nomatch h
theorem zvc {j k : Nat} {m : Str} {ps : List Str} {tb : Mt} {c : Nat} {f : Addr} {fn : List D -> M D} (h1 : Cls T.K (T.ca c)) (h2 : Meth T.K (T.ca c) m f) (h3 : OkA T P w mg base j f ps fn) (hj : j <= k) (h : MtOk T P w mg base k m ps tb) : MtOk T P w mg base k m ps ((c, fn) :: tb) := fun q hq => by
  rcases List.mem_cons.mp hq with rfl | hq
  · obtain ⟨fd, a, b⟩ := h3
    exact ⟨h1, f, h2, fd, a, b.mono hj⟩
  · exact h q hq
end
section
variable {T : Tb} {X : Cx}
end
end L4
namespace L4
open PySem L2
theorem nr {α : Type} {a b : α} (h : a = b) : a = b := h
section
variable {α β : Type} {ρ : Ev} {σ : Sto}
@[simp] theorem zse (a : α) (σ : Sto) (k : α -> M β) : (Out.ok a σ).bind k = k a σ := nr rfl
@[simp] theorem bind_ex (x : Xn) (σ : Sto) (k : α -> M β) : (Out.ex x σ : Out α).bind k = .ex x σ := nr rfl
@[simp] theorem bind_bad (k : α -> M β) : (Out.bad : Out α).bind k = .bad := nr rfl
@[simp] theorem ret_ap (a : α) (σ : Sto) : ret a σ = .ok a σ := nr rfl
@[simp] theorem bad_ap (σ : Sto) : (bad : M α) σ = .bad := nr rfl
@[simp] theorem zyr (m : M α) (k : α -> M β) (σ : Sto) : bnd m k σ = (m σ).bind k := nr rfl
@[simp] theorem ye1 (d : D) : eC d ρ σ = .ok d σ := nr rfl
@[simp] theorem zzc (d : D) (r : Ev) : yif 0 (some d :: r) σ = .ok d σ := nr rfl
@[simp] theorem zzd (i : Nat) (o : Option D) (r : Ev) : yif (i + 1) (o :: r) σ = yif i r σ := nr rfl
@[simp] theorem zs7 (o : D -> D -> M D) (a b : Ev -> M D) : yh9 o a b ρ σ = (a ρ σ).bind (binK o (b ρ)) := nr rfl
@[simp] theorem zsd (o : D -> D -> M D) (m : M D) (x : D) : binK o m x σ = (m σ).bind (o x) := nr rfl
@[simp] theorem zzb (o : D -> M D) (a : Ev -> M D) : eUn o a ρ σ = (a ρ σ).bind o := nr rfl
@[simp] theorem yd1 (b : Bool) : tst (.bl b) σ = .ok b σ := nr rfl
@[simp] theorem ifK_t (p q : M α) : ifK p q true σ = p σ := nr rfl
@[simp] theorem ifK_f (p q : M α) : ifK p q false σ = q σ := nr rfl
@[simp] theorem zvl (c : Bool) : notK c σ = .ok (!c) σ := nr rfl
@[simp] theorem testK_ap (k : Bool -> M α) (b : Bool) : yhb k (.bl b) σ = k b σ := nr rfl
@[simp] theorem nboxK_ap (c : Bool) : yf5 c σ = .ok (.bl (!c)) σ := nr rfl
@[simp] theorem eT_ap (f : Ev -> M D) : eT f ρ σ = (f ρ σ).bind tst := nr rfl
@[simp] theorem bAnd_ap (a b : Ev -> M Bool) : yhz a b ρ σ = (a ρ σ).bind (ifK (b ρ) (ret false)) := nr rfl
@[simp] theorem zyi (a b : Ev -> M Bool) : bOr a b ρ σ = (a ρ σ).bind (ifK (ret true) (b ρ)) := nr rfl
@[simp] theorem zsc (a : Ev -> M Bool) : yh0 a ρ σ = (a ρ σ).bind notK := nr rfl
@[simp] theorem eAnd_ap (a b : Ev -> M D) : yh8 a b ρ σ = (a ρ σ).bind (yhb (ifK (b ρ) (ret (.bl false)))) := nr rfl
@[simp] theorem eOr_ap (a b : Ev -> M D) : eOr a b ρ σ = (a ρ σ).bind (yhb (ifK (ret (.bl true)) (b ρ))) := nr rfl
@[simp] theorem eNot_ap (a : Ev -> M D) : eNot a ρ σ = (a ρ σ).bind (yhb yf5) := nr rfl
@[simp] theorem eIf_ap (t : Ev -> M Bool) (a b : Ev -> M D) : eIf t a b ρ σ = (t ρ σ).bind (ifK (a ρ) (b ρ)) := nr rfl
@[simp] theorem zr1 : yhx ρ σ = .ok [] σ := nr rfl
@[simp] theorem zm9 (e : Ev -> M D) (r : Ev -> M (List D)) : yej e r ρ σ = (e ρ σ).bind (zyh (r ρ)) := nr rfl
@[simp] theorem zj3 (m : M (List D)) (x : D) : zyh m x σ = (m σ).bind (yev x) := nr rfl
@[simp] theorem znt (x : D) (xs : List D) : yev x xs σ = .ok (x :: xs) σ := nr rfl
@[simp] theorem ztb (a : Ev -> M (List D)) : yie a ρ σ = (a ρ σ).bind yj0 := nr rfl
@[simp] theorem yd3 : yj0 [] σ = .ok (.tup []) σ := nr rfl
@[simp] theorem tupK_1 (a : D) : yj0 [a] σ = .ok (.tup [a]) σ := nr rfl
@[simp] theorem tupK_2 (a b : D) : yj0 [a, b] σ = .ok (.tup [a, b]) σ := nr rfl
@[simp] theorem tupK_3 (a b c : D) : yj0 [a, b, c] σ = .ok (.tup [a, b, c]) σ := nr rfl
@[simp] theorem tupK_4 (a b c d : D) : yj0 [a, b, c, d] σ = .ok (.tup [a, b, c, d]) σ := nr rfl
@[simp] theorem tupK_5 (a b c d e : D) : yj0 [a, b, c, d, e] σ = .ok (.tup [a, b, c, d, e]) σ := nr rfl
@[simp] theorem eLv_ap (a : Ev -> M (List D)) : eLv a ρ σ = (a ρ σ).bind lvK := nr rfl
@[simp] theorem zs9 (a : Ev -> M (List D)) : yic a ρ σ = (a ρ σ).bind yip := nr rfl
@[simp] theorem ybb : yip [] σ = .ok (.ref σ.length) (σ ++ [.lst []]) := nr rfl
@[simp] theorem oI_ap (g : Int -> Int -> Int) (i j : Int) : oI g (.int i) (.int j) σ = .ok (.int (g i j)) σ := nr rfl
@[simp] theorem oB_ap (g : Int -> Int -> Bool) (i j : Int) : oB g (.int i) (.int j) σ = .ok (.bl (g i j)) σ := nr rfl
theorem ybs {C : Int -> Int -> Bool} {g : Int -> Int -> Int} {i j : Int} (h : C i j = true) : oIC C g (.int i) (.int j) σ = .ok (.int (g i j)) σ := by
  show (if C i j = true then ret _ else bad) σ = _; rw [if_pos h]; rfl
@[simp] theorem oDiv_ap (i j : Int) (h : 0 < j) (h2 : j < 1073741824) : yiw (.int i) (.int j) σ = .ok (.int (i / j)) σ := ybs (by simp [cDiv, h, h2])
@[simp] theorem zvx (i j : Int) (h : 0 < j) : yi2 (.int i) (.int j) σ = .ok (.int (i % j)) σ := ybs (by simp [cMod, h])
@[simp] theorem oShr_ap (i j : Int) (h : 0 <= j) : oShr (.int i) (.int j) σ = .ok (.int (i / 2 ^ j.toNat)) σ := ybs (by simp [cShr, h])
theorem zvz {i j : Int} (h : yh2 i j = true) : yi5 (.int i) (.int j) σ = .ok (.int (i ^ j.toNat)) σ := ybs h
@[simp] theorem p12 : yi5 (.int 10) (.int 12) σ = .ok (.int 1000000000000) σ := zvz (by simp [yh2])
@[simp] theorem p6 : yi5 (.int 10) (.int 6) σ = .ok (.int 1000000) σ := zvz (by simp [yh2])
@[simp] theorem p4 : yi5 (.int 10) (.int 4) σ = .ok (.int 10000) σ := zvz (by simp [yh2])
@[simp] theorem p40 : yi5 (.int 10) (.int 40) σ = .ok (.int (10 ^ 40)) σ := zvz (by simp [yh2])
@[simp] theorem oNeg_ap (i : Int) : yi4 (.int i) σ = .ok (.int (-i)) σ := nr rfl
@[simp] theorem oAdd_int (i j : Int) : yis (.int i) (.int j) σ = .ok (.int (i + j)) σ := nr rfl
theorem zp0 {xs ys : List D} (h : xs.length + ys.length <= cap) : yis (.tup xs) (.tup ys) σ = .ok (.tup (xs ++ ys)) σ := by show (if _ then _ else _ : M D) σ = _; rw [if_pos h]; rfl
@[simp] theorem oIsN_non (σ : Sto) : yiz .non .non σ = .ok (.bl true) σ := nr rfl
@[simp] theorem oIsN_bl (b : Bool) : yiz (.bl b) .non σ = .ok (.bl false) σ := nr rfl
@[simp] theorem oIsN_int (b : Int) : yiz (.int b) .non σ = .ok (.bl false) σ := nr rfl
@[simp] theorem oIsN_tup (b : List D) : yiz (.tup b) .non σ = .ok (.bl false) σ := nr rfl
@[simp] theorem oIsN_lst (b : List D) : yiz (.lst b) .non σ = .ok (.bl false) σ := nr rfl
@[simp] theorem oIsN_str (b : Str) : yiz (.str b) .non σ = .ok (.bl false) σ := nr rfl
@[simp] theorem zl1 (σ : Sto) : ygf .non .non σ = .ok (.bl false) σ := nr rfl
@[simp] theorem zl0 (b : Int) : ygf (.int b) .non σ = .ok (.bl true) σ := nr rfl
@[simp] theorem zl2 (b : List D) : ygf (.tup b) .non σ = .ok (.bl true) σ := nr rfl
theorem ybr {x y : D} {b : Bool} (h : eqD σ 8 x y = some b) : oEq x y σ = .ok (.bl b) σ := by unfold oEq; rw [h]
theorem ybu {x y : D} {b : Bool} (h : eqD σ 8 x y = some b) : oNe x y σ = .ok (.bl (!b)) σ := by unfold oNe; rw [h]
@[simp] theorem oEq_int (i j : Int) : oEq (.int i) (.int j) σ = .ok (.bl (i == j)) σ := ybr (by simp [eqD, kd, eqK, eqV])
@[simp] theorem oNe_int (i j : Int) : oNe (.int i) (.int j) σ = .ok (.bl (!(i == j))) σ := ybu (by simp [eqD, kd, eqK, eqV])
@[simp] theorem oEq_str (i j : Str) : oEq (.str i) (.str j) σ = .ok (.bl (i == j)) σ := ybr (by simp [eqD, kd, eqK, eqV])
@[simp] theorem oNe_bl (i j : Bool) : oNe (.bl i) (.bl j) σ = .ok (.bl (!(i == j))) σ := ybu (by simp [eqD, kd, eqK, eqV])
@[simp] theorem oEq_bl (i j : Bool) : oEq (.bl i) (.bl j) σ = .ok (.bl (i == j)) σ := ybr (by simp [eqD, kd, eqK, eqV])
theorem zvv {xs : List D} {k : Int} {d : D} (h : atI xs k = some d) : oIx (.tup xs) (.int k) σ = .ok d σ := by simp [oIx, yg0, h]
theorem zvt {xs : List D} {k : Int} {d : D} (h : atI xs k = some d) : oIx (.lst xs) (.int k) σ = .ok d σ := by simp [oIx, yg0, h]
@[simp] theorem ix_t0 (a : D) (r : List D) : oIx (.tup (a :: r)) (.int 0) σ = .ok a σ := zvv (show atI _ ((0 : Nat) : Int) = _ from zr9 rfl)
@[simp] theorem ix_t1 (a b : D) (r : List D) : oIx (.tup (a :: b :: r)) (.int 1) σ = .ok b σ := zvv (show atI _ ((1 : Nat) : Int) = _ from zr9 rfl)
@[simp] theorem ix_t2 (a b c : D) (r : List D) : oIx (.tup (a :: b :: c :: r)) (.int 2) σ = .ok c σ := zvv (show atI _ ((2 : Nat) : Int) = _ from zr9 rfl)
@[simp] theorem ix_t3 (a b c d : D) (r : List D) : oIx (.tup (a :: b :: c :: d :: r)) (.int 3) σ = .ok d σ := zvv (show atI _ ((3 : Nat) : Int) = _ from zr9 rfl)
@[simp] theorem zp5 (xs : List D) : yi1 [.tup xs] σ = .ok (.int xs.length) σ := nr rfl
@[simp] theorem oLen_lst (xs : List D) : yi1 [.lst xs] σ = .ok (.int xs.length) σ := nr rfl
@[simp] theorem oLen_scr (xs : List Int) : yi1 [.scr xs] σ = .ok (.int xs.length) σ := by simp [yi1, yg0]
@[simp] theorem zi2 (xs : List D) : ybw [.lst xs] σ = .ok (.tup xs) σ := nr rfl
@[simp] theorem zi3 (xs : List D) : ybw [.tup xs] σ = .ok (.tup xs) σ := nr rfl
@[simp] theorem zn0 (o : List D -> M D) (fs : Ev -> M (List D)) : ye2 o fs ρ σ = (fs ρ σ).bind o := nr rfl
@[simp] theorem eFn_ap (n : Nat) (f : List D -> M D) (dds : List D) (fs : Ev -> M (List D)) : eFn n f dds fs ρ σ = (fs ρ σ).bind (fnK n f dds) := nr rfl
@[simp] theorem fnK_1 (f : List D -> M D) (a : D) : fnK 1 f [] [a] σ = f [a] σ := by unfold fnK; rw [if_pos (by simp)]; simp
@[simp] theorem fnK_2 (f : List D -> M D) (a b : D) : fnK 2 f [] [a, b] σ = f [a, b] σ := by unfold fnK; rw [if_pos (by simp)]; simp
@[simp] theorem fnK_3 (f : List D -> M D) (a b c : D) : fnK 3 f [] [a, b, c] σ = f [a, b, c] σ := by unfold fnK; rw [if_pos (by simp)]; simp
@[simp] theorem fnK_3d (f : List D -> M D) (a b c : D) : fnK 3 f [c] [a, b] σ = f [a, b, c] σ := by unfold fnK; rw [if_pos (by simp)]; simp
@[simp] theorem fnK_4 (f : List D -> M D) (a b c d : D) : fnK 4 f [] [a, b, c, d] σ = f [a, b, c, d] σ := by unfold fnK; rw [if_pos (by simp)]; simp
@[simp] theorem fnK_5 (f : List D -> M D) (a b c d e : D) : fnK 5 f [] [a, b, c, d, e] σ = f [a, b, c, d, e] σ := by unfold fnK; rw [if_pos (by simp)]; simp
@[simp] theorem fnK_7 (f : List D -> M D) (a b c d e g h : D) : fnK 7 f [] [a, b, c, d, e, g, h] σ = f [a, b, c, d, e, g, h] σ := by unfold fnK; rw [if_pos (by simp)]; simp
@[simp] theorem fnK_6 (f : List D -> M D) (a b c d e g : D) : fnK 6 f [] [a, b, c, d, e, g] σ = f [a, b, c, d, e, g] σ := by unfold fnK; rw [if_pos (by simp)]; simp
@[simp] theorem zw2 : yjm ρ σ = .ok (.nx ρ) σ := nr rfl
@[simp] theorem zw3 (g h : Ev -> M Fl) : yjp g h ρ σ = (g ρ σ).bind (yjs h) := nr rfl
@[simp] theorem zw9 (h : Ev -> M Fl) (ρ : Ev) : yjs h (.nx ρ) σ = h ρ σ := nr rfl
@[simp] theorem seqK_rt (h : Ev -> M Fl) (d : D) : yjs h (.rt d) σ = .ok (.rt d) σ := nr rfl
@[simp] theorem seqK_xc (h : Ev -> M Fl) (ρ : Ev) (x : Xn) : yjs h (.xc ρ x) σ = .ok (.xc ρ x) σ := nr rfl
@[simp] theorem seqK_bk (h : Ev -> M Fl) (ρ : Ev) : yjs h (.bk ρ) σ = .ok (.bk ρ) σ := nr rfl
@[simp] theorem seqK_ct (h : Ev -> M Fl) (ρ : Ev) : yjs h (.ct ρ) σ = .ok (.ct ρ) σ := nr rfl
def xsO (ρ : Ev) (k : α -> M Fl) : Out α -> Out Fl
  | .ok a σ' => k a σ'
  | .ex x σ' => .ok (.xc ρ x) σ'
  | .bad => .bad
@[simp] theorem yhi (ρ : Ev) (m : M α) (k : α -> M Fl) : xs ρ m k σ = xsO ρ k (m σ) := by unfold xs xsO; cases m σ <;> rfl
@[simp] theorem yd6 (ρ : Ev) (k : α -> M Fl) (a : α) : xsO ρ k (.ok a σ) = k a σ := nr rfl
@[simp] theorem xsO_ex (ρ : Ev) (k : α -> M Fl) (x : Xn) : xsO ρ k (.ex x σ) = .ok (.xc ρ x) σ := nr rfl
@[simp] theorem xsO_bad (ρ : Ev) (k : α -> M Fl) : xsO ρ k (.bad : Out α) = .bad := nr rfl
@[simp] theorem sRet_ap (f : Ev -> M D) : yjo f ρ σ = xsO ρ retK (f ρ σ) := yhi ..
@[simp] theorem retK_ap (d : D) : retK d σ = .ok (.rt d) σ := nr rfl
@[simp] theorem sExp_ap (f : Ev -> M D) : yjk f ρ σ = xsO ρ (expK ρ) (f ρ σ) := yhi ..
@[simp] theorem expK_ap (d : D) : expK ρ d σ = .ok (.nx ρ) σ := nr rfl
@[simp] theorem zw4 (i : Nat) (f : Ev -> M D) : yjq i f ρ σ = xsO ρ (setK i ρ) (f ρ σ) := yhi ..
@[simp] theorem zxc (i : Nat) (d : D) : setK i ρ d σ = .ok (.nx (ρ.set i (some d))) σ := nr rfl
@[simp] theorem ydb (t : Ev -> M Bool) (a b : Ev -> M Fl) : sIf t a b ρ σ = xsO ρ (ifK (a ρ) (b ρ)) (t ρ σ) := yhi ..
@[simp] theorem sAsg_ap (f : Ev -> M D) (tg : D -> Ev -> Option Ev) : sAsg f tg ρ σ = xsO ρ (yhy tg ρ) (f ρ σ) := yhi ..
theorem zr7 {tg : D -> Ev -> Option Ev} {d : D} {ρ' : Ev} (h : tg d ρ = some ρ') : yhy tg ρ d σ = .ok (.nx ρ') σ := by unfold yhy; rw [h]; rfl
@[simp] theorem asgK_1 (i j k : Nat) (a b c : D) : yhy (tgT 3 (ydx (tgN i) (ydx (tgN j) (ydx (tgN k) yhc)))) ρ (.tup [a, b, c]) σ = .ok (.nx (((ρ.set i (some a)).set j (some b)).set k (some c))) σ := nr rfl
@[simp] theorem asgK_2 (i j : Nat) (a b : D) : yhy (tgT 2 (ydx (tgN i) (ydx (tgN j) yhc))) ρ (.tup [a, b]) σ = .ok (.nx ((ρ.set i (some a)).set j (some b))) σ := nr rfl
@[simp] theorem zmj (c : Nat) (fs : Ev -> M (List D)) : ydd c fs ρ σ = xsO ρ (yc6 c ρ) (fs ρ σ) := yhi ..
@[simp] theorem raiseK_1 (c : Nat) (d : D) : yc6 c ρ [d] σ = .ok (.xc ρ ⟨c⟩) σ := nr rfl
@[simp] theorem sTry_ap (g : Ev -> M Fl) (hs : List Hd) : yjr g hs ρ σ = (g ρ σ).bind (yjz hs) := nr rfl
@[simp] theorem tryK_nx (hs : List Hd) : yjz hs (.nx ρ) σ = .ok (.nx ρ) σ := nr rfl
@[simp] theorem tryK_rt (hs : List Hd) (d : D) : yjz hs (.rt d) σ = .ok (.rt d) σ := nr rfl
@[simp] theorem tryK_xc (hs : List Hd) (x : Xn) : yjz hs (.xc ρ x) σ = yak ρ x hs σ := nr rfl
theorem zo3 {h : Hd} {r : List Hd} {x : Xn} (e : h.t x.cls = some true) : yak ρ x (h :: r) σ = hit h ρ x σ := by unfold yak; rw [e]
@[simp] theorem yal (t : Nat -> Option Bool) (g : Ev -> M Fl) (x : Xn) : hit ⟨t, none, g⟩ ρ x σ = (g ρ σ).bind noF := nr rfl
@[simp] theorem noF_nx : noF (.nx ρ) σ = .ok (.nx ρ) σ := nr rfl
@[simp] theorem noF_rt (d : D) : noF (.rt d) σ = .ok (.rt d) σ := nr rfl
@[simp] theorem yc9 (n : Nat) (g : Ev -> M Fl) (ds : List D) : run n g ds σ = yji (g (ds.map some ++ List.replicate (n - ds.length) none) σ) := nr rfl
@[simp] theorem runO_rt (d : D) : yji (.ok (.rt d) σ) = .ok d σ := nr rfl
@[simp] theorem runO_nx : yji (.ok (.nx ρ) σ) = .ok .non σ := nr rfl
@[simp] theorem runO_xc (x : Xn) : yji (.ok (.xc ρ x) σ) = .ex x σ := nr rfl
@[simp] theorem zz4 (f : M D) : frz f σ = yig σ (f σ) := nr rfl
@[simp] theorem zs8 (f : Ev -> M D) : yia f ρ σ = yig σ (f ρ σ) := nr rfl
theorem yfk {k m : Nat} {σ : Sto} {d : D} (h : cl d = true) : fz k σ m d = some d := by cases m <;> (unfold fz; rw [if_pos h])
theorem zty {σ' : Sto} {d : D} (h : cl d = true) (ht : σ'.take σ.length = σ) : yig σ (.ok d σ') = .ok d σ := by
  unfold yig; dsimp only; rw [if_pos ht, yfk h]
@[simp] theorem frzO_ex : yig σ (.ex x σ) = .ex x σ := by unfold yig; dsimp only; rw [if_pos List.take_length]
@[simp] theorem zk0 {d : D} (h : cl d = true) : yig σ (.ok d σ) = .ok d σ := zty h List.take_length
theorem zot {j j' : Sto} {xs : List D} (h : clL xs = true) : yig σ (.ok (.ref σ.length) (σ ++ [.lst xs] ++ j)) = .ok (.lst xs) σ := by
  unfold yig
  dsimp only
  rw [if_pos (by simp)]
  have e : fz σ.length (σ ++ [.lst xs] ++ j) 6 (.ref σ.length) = some (.lst xs) := by
    unfold fz
    rw [if_neg (by simp [cl])]
    dsimp only
    rw [if_neg (Nat.lt_irrefl _)]
    have : (σ ++ [Ob.lst xs] ++ j)[σ.length]? = some (.lst xs) := by simp
    rw [this]
    dsimp only
    have hl : ∀ (ys : List D) (m : Nat), clL ys = true -> fzL (fz σ.length (σ ++ [.lst xs] ++ j) m) ys = some ys := by
      intro ys m
      induction ys with
      | nil => intro _; rfl
      | cons y ys ih =>
        intro hc
        have hc' : cl y = true /\ clL ys = true := by simpa [clL, Bool.and_eq_true] using hc
        unfold fzL
        rw [yfk hc'.1, ih hc'.2]
    rw [hl xs 5 h]
    rfl
  rw [e]
@[simp] theorem zy0 (i : Int) : cl (.int i) = true := by simp [cl]
@[simp] theorem cl_bl (i : Bool) : cl (.bl i) = true := by simp [cl]
@[simp] theorem cl_str (i : Str) : cl (.str i) = true := by simp [cl]
@[simp] theorem cl_non : cl .non = true := by simp [cl]
@[simp] theorem cl_tup (xs : List D) : cl (.tup xs) = clL xs := by simp [cl]
@[simp] theorem zy1 (xs : List D) : cl (.lst xs) = clL xs := by simp [cl]
@[simp] theorem cl_ref (n : Nat) : cl (.ref n) = false := by simp [cl]
@[simp] theorem clL_nil : clL [] = true := by simp [clL]
@[simp] theorem zno (d : D) (ds : List D) : clL (d :: ds) = (cl d && clL ds) := by simp [clL]
theorem zsl : ∀ {ds : List D}, (∀ d ∈ ds, cl d = true) -> clL ds = true
  | [], _ => by simp
  | d :: ds, h => by rw [zno, h d List.mem_cons_self, zsl fun x hx => h x (List.mem_cons_of_mem _ hx)]; rfl
theorem zsm {γ : Type} {f : γ -> D} {l : List γ} (h : ∀ x, cl (f x) = true) : clL (l.map f) = true := zsl fun d hd => by obtain ⟨x, _, rfl⟩ := List.mem_map.mp hd; exact h x
@[simp] theorem clL_ints (l : List Int) : clL (l.map D.int) = true := zsm zy0
@[simp] theorem clL_app (xs ys : List D) : clL (xs ++ ys) = (clL xs && clL ys) := by
  induction xs with
  | nil => simp
  | cons x xs ih => simp [ih, Bool.and_assoc]
theorem zvy {i j : Int} (h : yh1 i j = true) : yi3 (.int i) (.int j) σ = .ok (.int (i * j)) σ := ybs h
theorem zys {i j : Int} (h : -(2 ^ 64) < i) (h2 : i < 2 ^ 64) : yh1 i j = true := by simp only [yh1, zud, Bool.or_eq_true, Bool.and_eq_true, decide_eq_true_eq]; exact .inl ⟨h, h2⟩
theorem zyt {i j : Int} (h : -(2 ^ 64) < j) (h2 : j < 2 ^ 64) : yh1 i j = true := by simp only [yh1, zud, Bool.or_eq_true, Bool.and_eq_true, decide_eq_true_eq]; exact .inr ⟨h, h2⟩
theorem atI_D {xs : List D} {k : Int} (h0 : 0 <= k) (h : k < xs.length) : atI xs k = some (xs.getD k.toNat .non) := by
  obtain ⟨n, rfl⟩ := Int.eq_ofNat_of_zero_le h0
  have hn : n < xs.length := by omega
  refine zr9 ?_
  show xs[n]? = some (xs.getD n .non)
  rw [List.getD_eq_getElem?_getD, List.getElem?_eq_getElem hn]; rfl
theorem yel {is : List Int} {k : Int} (h0 : 0 <= k) (h : k < is.length) : atI (is.map D.int) k = some (.int (is.getD k.toNat 0)) := by
  rw [atI_D h0 (by simpa using h)]
  have hn : k.toNat < is.length := by omega
  simp [hn]
@[simp] theorem ixI2 (n a b : Int) : oIx (.lst [.int a, .int b]) (.int (n % 2)) σ = .ok (.int ([a, b].getD (n % 2).toNat 0)) σ := zvt (yel (is := [a, b]) (by omega) (by simp; omega))
@[simp] theorem ixI3 (n a b c : Int) : oIx (.lst [.int a, .int b, .int c]) (.int (n % 3)) σ = .ok (.int ([a, b, c].getD (n % 3).toNat 0)) σ := zvt (yel (is := [a, b, c]) (by omega) (by simp; omega))
@[simp] theorem ixI4 (n a b c d : Int) : oIx (.lst [.int a, .int b, .int c, .int d]) (.int (n % 4)) σ = .ok (.int ([a, b, c, d].getD (n % 4).toNat 0)) σ := zvt (yel (is := [a, b, c, d]) (by omega) (by simp; omega))
@[simp] theorem ixI5 (n a b c d e : Int) : oIx (.lst [.int a, .int b, .int c, .int d, .int e]) (.int (n % 5)) σ = .ok (.int ([a, b, c, d, e].getD (n % 5).toNat 0)) σ := zvt (yel (is := [a, b, c, d, e]) (by omega) (by simp; omega))
@[simp] theorem ixI6 (n a b c d e f : Int) : oIx (.lst [.int a, .int b, .int c, .int d, .int e, .int f]) (.int (n % 6)) σ = .ok (.int ([a, b, c, d, e, f].getD (n % 6).toNat 0)) σ := zvt (yel (is := [a, b, c, d, e, f]) (by omega) (by simp; omega))
@[simp] theorem ixI7 (n a b c d e f g : Int) : oIx (.lst [.int a, .int b, .int c, .int d, .int e, .int f, .int g]) (.int (n % 7)) σ = .ok (.int ([a, b, c, d, e, f, g].getD (n % 7).toNat 0)) σ := zvt (yel (is := [a, b, c, d, e, f, g]) (by omega) (by simp; omega))
@[simp] theorem ixI8 (n a b c d e f g h : Int) : oIx (.lst [.int a, .int b, .int c, .int d, .int e, .int f, .int g, .int h]) (.int (n % 8)) σ = .ok (.int ([a, b, c, d, e, f, g, h].getD (n % 8).toNat 0)) σ := zvt (yel (is := [a, b, c, d, e, f, g, h]) (by omega) (by simp; omega))
@[simp] theorem lvK_1 (a : D) : lvK [a] σ = .ok (.lst [a]) σ := nr rfl
@[simp] theorem lvK_0 : lvK [] σ = .ok (.lst []) σ := nr rfl
@[simp] theorem lvK_2 (a b : D) : lvK [a, b] σ = .ok (.lst [a, b]) σ := nr rfl
@[simp] theorem lvK_3 (a b c : D) : lvK [a, b, c] σ = .ok (.lst [a, b, c]) σ := nr rfl
@[simp] theorem lvK_4 (a b c d : D) : lvK [a, b, c, d] σ = .ok (.lst [a, b, c, d]) σ := nr rfl
@[simp] theorem lvK_5 (a b c d e : D) : lvK [a, b, c, d, e] σ = .ok (.lst [a, b, c, d, e]) σ := nr rfl
@[simp] theorem lvK_6 (a b c d e f : D) : lvK [a, b, c, d, e, f] σ = .ok (.lst [a, b, c, d, e, f]) σ := nr rfl
@[simp] theorem lvK_7 (a b c d e f g : D) : lvK [a, b, c, d, e, f, g] σ = .ok (.lst [a, b, c, d, e, f, g]) σ := nr rfl
@[simp] theorem lvK_8 (a b c d e f g h : D) : lvK [a, b, c, d, e, f, g, h] σ = .ok (.lst [a, b, c, d, e, f, g, h]) σ := nr rfl
@[simp] theorem lvK_9 (a b c d e f g h i : D) : lvK [a, b, c, d, e, f, g, h, i] σ = .ok (.lst [a, b, c, d, e, f, g, h, i]) σ := nr rfl
@[simp] theorem lstK_2 (a b : D) : yip [a, b] σ = .ok (.ref σ.length) (σ ++ [.lst [a, b]]) := nr rfl
@[simp] theorem zlo (xs : List D) : yfy (σ ++ [.lst xs]) σ.length = some xs := by simp [yfy]
@[simp] theorem zxe (a b : Ob) : (σ ++ [a]).set σ.length b = σ ++ [b] := by
  rw [List.set_append_right _ _ (Nat.le_refl _)]; simp
@[simp] theorem eMeth_ap (o : D -> List D -> M D) (f : Ev -> M D) (fs : Ev -> M (List D)) : ye5 o f fs ρ σ = (f ρ σ).bind (yf1 o (fs ρ)) := nr rfl
theorem zps {o : D -> List D -> M D} {m : M (List D)} {x : D} {xs : List D} (h : yio σ x = some xs) : yf1 o m x σ = (m σ).bind (o x) := by unfold yf1; rw [h]; rfl
@[simp] theorem zlv (o : D -> List D -> M D) (m : M (List D)) (xs : List D) : yf1 o m (.ref σ.length) (σ ++ [.lst xs]) = (m (σ ++ [.lst xs])).bind (o (.ref σ.length)) := zps (xs := xs) (by simp [yio])
@[simp] theorem zlw (o : D -> List D -> M D) (m : M (List D)) (xs : List D) : yf1 o m (.lst xs) σ = (m σ).bind (o (.lst xs)) := zps rfl
theorem zhz {xs : List D} {d : D} (h : xs.length < 1000) : zvn (.ref σ.length) [d] (σ ++ [.lst xs]) = .ok .non (σ ++ [.lst (xs ++ [d])]) := by
  unfold zvn; simp only [zlo]; rw [if_pos (show xs.length < cap from h), zxe]
theorem zp3 {neg : Bool} {w : Int} {x : D} {ws : List Int} (h : yg0 σ x = some (ws.map D.int)) : oIn neg (.int w) x σ = .ok (.bl (if neg then !(ws.any (· == w)) else ws.any (· == w))) σ := by
  have h1 : ∀ l : List Int, (l.map D.int).all isF = true := fun l => by simp [isF, sc]
  have h2 : ∀ l : List Int, ((l.map D.int).any fun z => eqF z (.int w)) = l.any (· == w) := fun l => by simp [eqF, sc, eqV, List.any_map, Function.comp_def]
  unfold oIn; rw [h]; simp only [h1, h2, show isF (.int w) = true from rfl, Bool.and_self, if_true]
@[simp] theorem zmt (xs : List D) : yg0 (σ ++ [.lst xs]) (.ref σ.length) = some xs := zlo xs
@[simp] theorem zmu (xs : List D) : yg0 σ (.lst xs) = some xs := nr rfl
@[simp] theorem zmw (xs : List D) : yg0 σ (.tup xs) = some xs := nr rfl
@[simp] theorem zx3 (f : Ev -> M D) : yjw f ρ σ = (f ρ σ).bind ygz := nr rfl
@[simp] theorem zms (ds : List D) : ygz (.tup ds) σ = .ok (.seq ds) σ := nr rfl
@[simp] theorem zmr (ds : List D) : ygz (.lst ds) σ = .ok (.seq ds) σ := nr rfl
@[simp] theorem zx2 (f : Ev -> M D) : yjv f ρ σ = (f ρ σ).bind yjh := nr rfl
theorem zwx {j : Int} (h : -(2 ^ 62) <= j) (h2 : j < 2 ^ 62) : yjh (.int j) σ = .ok (.seq (yc7 j.toNat)) σ := by
  unfold yjh; dsimp only; rw [if_pos (by simp only [zxm, zud, Bool.and_eq_true, decide_eq_true_eq]; exact ⟨h, h2⟩)]
@[simp] theorem zw1 (src : Ev -> M Src) (tg : D -> Ev -> Option Ev) (body : Ev -> M Fl) : yjl src tg body ρ σ = xsO ρ (forK tg body ρ) (src ρ σ) := yhi ..
@[simp] theorem zop (tg : D -> Ev -> Option Ev) (body : Ev -> M Fl) (ds : List D) : forK tg body ρ (.seq ds) σ = yin tg body ds ρ σ := nr rfl
@[simp] theorem zpm (tg : D -> Ev -> Option Ev) (body : Ev -> M Fl) : yin tg body [] ρ σ = .ok (.nx ρ) σ := nr rfl
theorem zln {tg : D -> Ev -> Option Ev} {body : Ev -> M Fl} {d : D} {ds : List D} {ρ1 : Ev} (h : tg d ρ = some ρ1) : yin tg body (d :: ds) ρ σ = (body ρ1 σ).bind (yfv (yin tg body ds)) := by
  show (match tg d ρ with | none => bad | some ρ1 => bnd (body ρ1) (yfv (yin tg body ds))) σ = _
  rw [h]; rfl
@[simp] theorem zpn (i : Nat) (body : Ev -> M Fl) (d : D) (ds : List D) : yin (tgN i) body (d :: ds) ρ σ = (body (ρ.set i (some d)) σ).bind (yfv (yin (tgN i) body ds)) := zln rfl
@[simp] theorem zpl (k : Ev -> M Fl) : yfv k (.nx ρ) σ = k ρ σ := nr rfl
@[simp] theorem loopK_ct (k : Ev -> M Fl) : yfv k (.ct ρ) σ = k ρ σ := nr rfl
@[simp] theorem loopK_rt (k : Ev -> M Fl) (d : D) : yfv k (.rt d) σ = .ok (.rt d) σ := nr rfl
@[simp] theorem loopK_xc (k : Ev -> M Fl) (x : Xn) : yfv k (.xc ρ x) σ = .ok (.xc ρ x) σ := nr rfl
@[simp] theorem loopK_bk (k : Ev -> M Fl) : yfv k (.bk ρ) σ = .ok (.nx ρ) σ := nr rfl
theorem zmg (n : Nat) : yc7 n = (List.range' 0 n).map fun (k : Nat) => D.int k := by unfold yc7; rw [List.range_eq_range']
theorem ybp {m : M α} {a : α} {σ' : Sto} (h : m σ = .ok a σ') : nox m σ = .ok a σ' := by unfold nox; rw [h]
theorem yfs {fi : Ev -> M Bool} {fe : Ev -> M D} {ds : List D} {yjg : Ev} {σ0 : Sto} (y : D -> D) (p : D -> Bool)
    (step : ∀ d ∈ ds, ∀ j, fi (some d :: yjg) (σ0 ++ j) = .ok (p d) (σ0 ++ j) /\ (p d = true -> fe (some d :: yjg) (σ0 ++ j) = .ok (y d) (σ0 ++ j))) (hl : ds.length <= 1000) :
    ∀ (k i : Nat) (o : Option D) (ys : List D), ds.length < k + i -> i <= ds.length -> ys.length <= i ->
      ya1 (.seq ds) σ0.length (tgN 0) fi fe k i (o :: yjg) (σ0 ++ [.lst ys]) = .ok () (σ0 ++ [.lst (ys ++ ((ds.drop i).filter p).map y)]) := by
  intro k
  induction k with
  | zero => intro i o ys h1 h2; omega
  | succ k ih =>
    intro i o ys h1 h2 hy
    unfold ya1
    show (match some ds[i]? with | none => _ | some none => _ | some (some d) => _) = _
    cases e : ds[i]? with
    | none =>
      have hi : ds.length <= i := List.getElem?_eq_none_iff.mp e
      rw [List.drop_eq_nil_of_le hi]; simp
    | some d =>
      obtain ⟨hi, ed⟩ := List.getElem?_eq_some_iff.mp e
      have hd : ds.drop i = d :: ds.drop (i + 1) := by rw [<- ed]; exact List.drop_eq_getElem_cons hi
      obtain ⟨s1, s2⟩ := step d (by rw [<- ed]; exact List.getElem_mem hi) [.lst ys]
      show bnd (nox (fi (some d :: yjg))) _ _ = _
      rw [zyr, ybp s1, zse]
      dsimp only [List.set]
      by_cases hp : p d = true
      · rw [hp, if_pos rfl, zyr, ybp (s2 hp), zse, zyr, zhz (by omega), zse, ih (i + 1) (some d) (ys ++ [y d]) (by omega) (by omega) (by simp; omega), hd, List.filter_cons, if_pos hp]
        simp
      · rw [if_neg hp, ih (i + 1) (some d) ys (by omega) (by omega) (by omega), hd, List.filter_cons, if_neg hp]
theorem lc_ok {src : Ev -> M Src} {ix : List Nat} {fi : Ev -> M Bool} {fe : Ev -> M D} {ds : List D} (y : D -> D) (p : D -> Bool) (hs : src ρ σ = .ok (.seq ds) σ) (hl : ds.length <= 1000)
    (step : ∀ d ∈ ds, ∀ j, fi (some d :: (ix.map fun i => (ρ[i]?).getD none)) (σ ++ j) = .ok (p d) (σ ++ j) /\ (p d = true -> fe (some d :: (ix.map fun i => (ρ[i]?).getD none)) (σ ++ j) = .ok (y d) (σ ++ j))) (hc : ∀ d ∈ ds, p d = true -> cl (y d) = true) :
    yia (eLC src ix (tgN 0) fi fe) ρ σ = .ok (.lst ((ds.filter p).map y)) σ := by
  show yig σ (eLC src ix (tgN 0) fi fe ρ σ) = _
  have e : eLC src ix (tgN 0) fi fe ρ σ = .ok (.ref σ.length) (σ ++ [.lst ((ds.filter p).map y)]) := by
    show bnd (src ρ) (lcK (tgN 0) fi fe (yeq ix ρ)) σ = _
    rw [zyr, hs, zse]
    show bnd (ya1 (.seq ds) σ.length (tgN 0) fi fe 1001 0 (none :: (ix.map fun i => (ρ[i]?).getD none))) _ (σ ++ [.lst []]) = _
    rw [zyr, yfs y p step hl 1001 0 none [] (by omega) (by omega) (by simp), zse]
    simp
  rw [e]
  have := zot (σ := σ) (j := []) (j' := []) (xs := (ds.filter p).map y) (zsl fun d hd => by obtain ⟨x, hx, rfl⟩ := List.mem_map.mp hd; obtain ⟨hx1, hx2⟩ := List.mem_filter.mp hx; exact hc x hx1 hx2)
  simpa using this
theorem ya3 {src : Ev -> M Src} {ix : List Nat} {fe : Ev -> M D} {ds : List D} (y : D -> D) (hs : src ρ σ = .ok (.seq ds) σ) (hl : ds.length <= 1000)
    (step : ∀ d ∈ ds, ∀ j, fe (some d :: (ix.map fun i => (ρ[i]?).getD none)) (σ ++ j) = .ok (y d) (σ ++ j)) (hc : ∀ d ∈ ds, cl (y d) = true) :
    yia (eLC src ix (tgN 0) yeo fe) ρ σ = .ok (.lst (ds.map y)) σ := by
  have := lc_ok (p := fun _ => true) y (ix := ix) (fi := yeo) hs hl (fun d hd j => ⟨rfl, fun _ => step d hd j⟩) (fun d hd _ => hc d hd)
  rw [show List.filter (fun _ => true) ds = ds from List.filter_eq_self.mpr fun _ _ => rfl] at this
  exact this
end
end L4
namespace L4
open PySem L2
section
variable {α β : Type} {ρ : Ev} {σ : Sto}
@[simp] theorem zmv (ns : List Int) : yg0 σ (.scr ns) = some (ns.map D.int) := nr rfl
theorem zvu {ns : List Int} {k : Int} (h0 : 0 <= k) (h : k < ns.length) : oIx (.scr ns) (.int k) σ = .ok (.int (ns.getD k.toNat 0)) σ := by
  simp only [oIx, zmv, yel h0 h]
@[simp] theorem oIsB_int (c : BT) (i : Int) : yiy c (.int i) σ = .ok (.bl (match c with | .int => true | _ => false)) σ := nr rfl
@[simp] theorem oIsB_bl (c : BT) (i : Bool) : yiy c (.bl i) σ = .ok (.bl (match c with | .int => true | .bool => true | _ => false)) σ := nr rfl
@[simp] theorem zp4 (xs : List D) : yiy .tuple (.tup xs) σ = .ok (.bl true) σ := nr rfl
@[simp] theorem zks (o o' : D -> D -> M D) (a b c : Ev -> M D) : zy8 o o' a b c ρ σ = (a ρ σ).bind (zyw o o' (b ρ) (c ρ)) := nr rfl
def pl : Nat -> D -> Bool
  | _, .non => true
  | _, .bl _ => true
  | _, .int _ => true
  | _, .str _ => true
  | n + 1, .tup xs => xs.all (pl n)
  | n + 1, .lst xs => xs.all (pl n)
  | _, _ => false
theorem zn4 {f : D -> D -> Option Bool} : ∀ {xs : List D}, (∀ x ∈ xs, f x x = some true) -> eqL f xs xs = some true
  | [], _ => rfl
  | x :: xs, h => by unfold eqL; rw [h x List.mem_cons_self, zn4 fun y hy => h y (List.mem_cons_of_mem _ hy)]; rfl
theorem zn1 : ∀ (n : Nat) (x : D), pl n x = true -> eqD σ n x x = some true
  | 0, x, h => by cases x <;> simp [pl] at h <;> simp [eqD, kd, eqK, eqV]
  | n + 1, x, h => by
    cases x with
    | non => simp [eqD, kd, eqK, eqV]
    | bl b => simp [eqD, kd, eqK, eqV]
    | int b => simp [eqD, kd, eqK, eqV]
    | str b => simp [eqD, kd, eqK, eqV]
    | tup xs =>
      simp only [pl, List.all_eq_true] at h
      unfold eqD; simp only [kd, eqK]
      exact zn4 fun y hy => zn1 n y (h y hy)
    | lst xs =>
      simp only [pl, List.all_eq_true] at h
      unfold eqD; simp only [kd, eqK]
      exact zn4 fun y hy => zn1 n y (h y hy)
    | _ => simp [pl] at h
theorem zp2 {x : D} (h : pl 8 x = true) : oEq x x σ = .ok (.bl true) σ := ybr (zn1 8 x h)
theorem zp7 {x : D} (h : pl 8 x = true) : oNe x x σ = .ok (.bl false) σ := ybu (zn1 8 x h)
@[simp] theorem sSetL_ap (f fo fi : Ev -> M D) : ygx f fo fi ρ σ = xsO ρ (yg4 ρ fo fi) (f ρ σ) := yhi ..
@[simp] theorem zkl (o o' : D -> D -> M D) (b c : M D) (x : D) : zyw o o' b c x σ = (b σ).bind (zyy o o' c x) := nr rfl
@[simp] theorem zkn (o o' : D -> D -> M D) (c : M D) (x y : D) : zyy o o' c x y σ = (o x y σ).bind (zyx o' c y) := nr rfl
@[simp] theorem zkm (o' : D -> D -> M D) (c : M D) (y : D) (b : Bool) : zyx o' c y (.bl b) σ = ifK (bnd c (o' y)) (ret (.bl false)) b σ := nr rfl
@[simp] theorem setL1_ap (fo fi : Ev -> M D) (d : D) : yg4 ρ fo fi d σ = xsO ρ (yg5 ρ fi d) (fo ρ σ) := yhi ..
@[simp] theorem setL2_ap (fi : Ev -> M D) (d x : D) : yg5 ρ fi d x σ = xsO ρ (yg6 ρ d x) (fi ρ σ) := yhi ..
@[simp] theorem setL3_0 (d a : D) (r : List D) : yg6 ρ d (.ref σ.length) (.int 0) (σ ++ [.lst (a :: r)]) = .ok (.nx ρ) (σ ++ [.lst (d :: r)]) := by
  have : ygg (.ref σ.length) (.int 0) d (σ ++ [.lst (a :: r)]) = .ok () (σ ++ [.lst (d :: r)]) := by
    simp only [ygg, zlo]
    rw [show ixN (a :: r).length 0 = some 0 by simp [ixN]]
    simp
  unfold yg6; rw [this]
@[simp] theorem setL3_1 (d a b : D) (r : List D) : yg6 ρ d (.ref σ.length) (.int 1) (σ ++ [.lst (a :: b :: r)]) = .ok (.nx ρ) (σ ++ [.lst (a :: d :: r)]) := by
  have : ygg (.ref σ.length) (.int 1) d (σ ++ [.lst (a :: b :: r)]) = .ok () (σ ++ [.lst (a :: d :: r)]) := by
    simp only [ygg, zlo]
    rw [show ixN (a :: b :: r).length 1 = some 1 by simp [ixN]; omega]
    simp
  unfold yg6; rw [this]
theorem zvs {xs : List D} {k : Int} {d : D} (h : atI xs k = some d) : oIx (.ref σ.length) (.int k) (σ ++ [.lst xs]) = .ok d (σ ++ [.lst xs]) := by simp [oIx, zmt, h]
@[simp] theorem ix_e0 (a : D) (r : List D) : oIx (.ref σ.length) (.int 0) (σ ++ [.lst (a :: r)]) = .ok a (σ ++ [.lst (a :: r)]) := zvs (show atI _ ((0 : Nat) : Int) = _ from zr9 rfl)
@[simp] theorem ix_e1 (a b : D) (r : List D) : oIx (.ref σ.length) (.int 1) (σ ++ [.lst (a :: b :: r)]) = .ok b (σ ++ [.lst (a :: b :: r)]) := zvs (show atI _ ((1 : Nat) : Int) = _ from zr9 rfl)
theorem zor {a : Ob} {d : D} (h : cl d = true) : yig σ (.ok d (σ ++ [a])) = .ok d σ := zty h (by simp)
@[simp] theorem zke {γ : Type} (f : γ -> Bool) (l : List γ) : yes (l.map fun x => D.bl (f x)) = some (l.map f) := by
  induction l with
  | nil => rfl
  | cons x l ih => simp [yes, ih]
@[simp] theorem zio (l : List Int) : yaq (l.map D.int) = some l := by
  induction l with
  | nil => rfl
  | cons x l ih => simp [yaq, ih]
theorem zp1 {γ : Type} {f : γ -> Bool} {l : List γ} : yit [.lst (l.map fun x => D.bl (f x))] σ = .ok (.bl (l.all f)) σ := by
  simp only [yit, zmu, Option.bind_some, zke]
  simp [List.all_map, Function.comp_def]
theorem ze8 {l : List Int} (h : l.length <= 1000) : zvw (.lst (l.map D.int)) σ = .ok (.int (ddp l).length) σ := by
  simp only [zvw, yio, Option.bind_some, zio]
  rw [if_pos (show l.length <= cap from h)]
theorem zy4 : ∀ (l s : List Int), (l.foldl PyProof.Rows.step_dedup s).length <= s.length + l.length /\ ((l.foldl PyProof.Rows.step_dedup s).length = s.length + l.length ↔ (l.Nodup /\ ∀ x ∈ l, x ∉ s))
  | [], s => by simp
  | x :: l, s => by
    rw [List.foldl_cons]
    by_cases h : s.any (· == x) = true
    · have hx : x ∈ s := by simpa using h
      rw [show PyProof.Rows.step_dedup s x = s by unfold PyProof.Rows.step_dedup; rw [if_pos h]]
      obtain ⟨h1, h2⟩ := zy4 l s
      refine ⟨by simp only [List.length_cons]; omega, fun e => ?_, fun e => absurd hx (e.2 x List.mem_cons_self)⟩
      simp only [List.length_cons] at e; omega
    · have hx : x ∉ s := by simpa using h
      rw [show PyProof.Rows.step_dedup s x = s ++ [x] by unfold PyProof.Rows.step_dedup; rw [if_neg h]]
      obtain ⟨h1, h2⟩ := zy4 l (s ++ [x])
      simp only [List.length_append, List.length_cons, List.length_nil] at h1 h2
      refine ⟨by simp only [List.length_cons]; omega, ?_⟩
      rw [List.length_cons, show s.length + (l.length + 1) = s.length + (0 + 1) + l.length by omega, h2, List.nodup_cons]
      constructor
      · rintro ⟨a, b⟩
        refine ⟨⟨fun hm => (b x hm) (by simp), a⟩, fun y hy => ?_⟩
        rcases List.mem_cons.mp hy with rfl | hy
        · exact hx
        · exact fun hs => b y hy (by simp [hs])
      · rintro ⟨⟨a, b⟩, c⟩
        refine ⟨b, fun y hy hs => ?_⟩
        rcases List.mem_append.mp hs with hs | hs
        · exact c y (List.mem_cons_of_mem _ hy) hs
        · rw [List.mem_singleton.mp hs] at hy; exact a hy
theorem zs0 (l : List Int) : ((ddp l).length : Int) = (l.length : Int) ↔ l.Nodup := by
  have := (zy4 l []).2
  simp only [List.length_nil, Nat.zero_add, List.not_mem_nil, not_false_eq_true, implies_true, and_true] at this
  unfold ddp; rw [<- this]; omega
end
end L4
namespace L4
open PySem L2
section
variable {ρ : Ev} {σ : Sto}
@[simp] theorem eMake_ap (c n : Nat) (fn : List D -> M D) (fs : Ev -> M (List D)) : ye4 c n fn fs ρ σ = (fs ρ σ).bind (yfz c n fn) := nr rfl
theorem zpo {c n : Nat} {fn : List D -> M D} {ds : List D} (h : ds.length + 1 = n) : yfz c n fn ds σ = yf7 σ.length (fn (.ref σ.length :: ds) (σ ++ [.ins c []])) := by unfold yfz; rw [if_pos h]
@[simp] theorem zu5 (c : Nat) (fn : List D -> M D) (a : D) : yfz c 2 fn [a] σ = yf7 σ.length (fn [.ref σ.length, a] (σ ++ [.ins c []])) := zpo rfl
@[simp] theorem zu6 (c : Nat) (fn : List D -> M D) (a b : D) : yfz c 3 fn [a, b] σ = yf7 σ.length (fn [.ref σ.length, a, b] (σ ++ [.ins c []])) := zpo rfl
@[simp] theorem makeK_3 (c : Nat) (fn : List D -> M D) (a b d : D) : yfz c 4 fn [a, b, d] σ = yf7 σ.length (fn [.ref σ.length, a, b, d] (σ ++ [.ins c []])) := zpo rfl
@[simp] theorem zu7 (c : Nat) (fn : List D -> M D) (a b d e f : D) : yfz c 6 fn [a, b, d, e, f] σ = yf7 σ.length (fn [.ref σ.length, a, b, d, e, f] (σ ++ [.ins c []])) := zpo rfl
@[simp] theorem zpy (n : Nat) : yf7 n (.ok .non σ) = .ok (.ref n) σ := nr rfl
@[simp] theorem sPut_ap (cs : List Nat) (f : Str) (fv fo : Ev -> M D) : yjn cs f fv fo ρ σ = xsO ρ (ygo ρ cs f fo) (fv ρ σ) := yhi ..
@[simp] theorem putK1_ap (cs : List Nat) (f : Str) (fo : Ev -> M D) (d : D) : ygo ρ cs f fo d σ = xsO ρ (ygp ρ cs f d) (fo ρ σ) := yhi ..
theorem zmf {cs : List Nat} {f : Str} {d : D} {c : Nat} {fs : List (Str × D)} (h : cs.contains c = true) (hl : fs.length < 1000) : ygp ρ cs f d (.ref σ.length) (σ ++ [.ins c fs]) = .ok (.nx ρ) (σ ++ [.ins c (yjc f d fs)]) := by
  have e : yi6 cs f d (.ref σ.length) (σ ++ [.ins c fs]) = .ok () (σ ++ [.ins c (yjc f d fs)]) := by
    have : (σ ++ [Ob.ins c fs])[σ.length]? = some (.ins c fs) := by simp
    unfold yi6; simp only [this]; rw [if_pos (by rw [h]; simpa using hl)]; simp
  unfold ygp; rw [e]
theorem zk8 {c : Nat} {ns : List Str} {ds : List D} (h : ns.length = ds.length) : yfp σ (.obj c ns ds) = some (c, ns.zip ds) := by unfold yfp; dsimp only; rw [if_pos h]
theorem zvq {cs : List Nat} {f : Str} {x d : D} {c : Nat} {fs : List (Str × D)} (h : yfp σ x = some (c, fs)) (hc : cs.contains c = true) (hl : fs.lookup f = some d) : yix cs f x σ = .ok d σ := by
  unfold yix; rw [h]; dsimp only; rw [if_pos hc, hl]
@[simp] theorem eMth_ap (tb : Mt) (n : Nat) (m : Str) (f : Ev -> M D) (fs : Ev -> M (List D)) : yid tb n m f fs ρ σ = (f ρ σ).bind (yir tb n m (fs ρ)) := nr rfl
theorem zvg {tb : Mt} {n : Nat} {m : Str} {fs : M (List D)} {x : D} {c : Nat} {gs : List (Str × D)} {fn : List D -> M D} (h : yfp σ x = some (c, gs)) (ht : lkM tb c = some fn) (hl : gs.lookup m = none) : yir tb n m fs x σ = (fs σ).bind (yf3 n fn x) := by
  unfold yir; rw [h]; dsimp only; rw [ht, hl]; rfl
theorem zpu {n : Nat} {fn : List D -> M D} {x : D} {ds : List D} (h : ds.length + 1 = n) : yf3 n fn x ds σ = fn (x :: ds) σ := by unfold yf3; rw [if_pos h]
@[simp] theorem zve (fn : List D -> M D) (x : D) : yf3 1 fn x [] σ = fn [x] σ := zpu rfl
@[simp] theorem mthK2_1 (fn : List D -> M D) (x a : D) : yf3 2 fn x [a] σ = fn [x, a] σ := zpu rfl
@[simp] theorem zvf (fn : List D -> M D) (x a b : D) : yf3 3 fn x [a, b] σ = fn [x, a, b] σ := zpu rfl
@[simp] theorem mthK2_4 (fn : List D -> M D) (x a b c d : D) : yf3 5 fn x [a, b, c, d] σ = fn [x, a, b, c, d] σ := zpu rfl
theorem zos {c : Nat} {fs : List (Str × D)} (h : clL (fs.map (·.2)) = true) : yig σ (.ok (.ref σ.length) (σ ++ [.ins c fs])) = .ok (.obj c (fs.map (·.1)) (fs.map (·.2))) σ := by
  unfold yig
  dsimp only
  rw [if_pos (by simp)]
  have e : fz σ.length (σ ++ [.ins c fs]) 6 (.ref σ.length) = some (.obj c (fs.map (·.1)) (fs.map (·.2))) := by
    unfold fz
    rw [if_neg (by simp)]
    dsimp only
    rw [if_neg (Nat.lt_irrefl _)]
    have : (σ ++ [Ob.ins c fs])[σ.length]? = some (.ins c fs) := by simp
    rw [this]
    dsimp only
    have hl : ∀ (ys : List D) (m : Nat), clL ys = true -> fzL (fz σ.length (σ ++ [.ins c fs]) m) ys = some ys := by
      intro ys m
      induction ys with
      | nil => intro _; rfl
      | cons y ys ih =>
        intro hc
        have hc' : cl y = true /\ clL ys = true := by simpa [clL, Bool.and_eq_true] using hc
        unfold fzL
        rw [yfk hc'.1, ih hc'.2]
    rw [hl _ 5 h]
    rfl
  rw [e]
@[simp] theorem cl_obj (c : Nat) (ns : List Str) (ds : List D) : cl (.obj c ns ds) = clL ds := by simp [cl]
@[simp] theorem zp6 (i j : Int) : yge [.int i, .int j] σ = .ok (.int (min i j)) σ := nr rfl
@[simp] theorem oMax2_ap (i j : Int) : ygd [.int i, .int j] σ = .ok (.int (max i j)) σ := nr rfl
@[simp] theorem oIsT_bl (n b k : Bool) : oIsT n (.bl b) (.bl k) σ = .ok (.bl (if n then !(b == k) else b == k)) σ := nr rfl
@[simp] theorem oIsB_str (i : Str) : yiy .str (.str i) σ = .ok (.bl true) σ := nr rfl
@[simp] theorem oIsB_non (c : BT) : yiy c .non σ = .ok (.bl false) σ := by cases c <;> rfl
end
end L4
namespace L4
open PySem PySem.Spec PySem.Calls PyProof.Rows PySem.Builtin PySem.Builtin.ObjectAttr PySem.Builtin.Getset_descriptor L2
structure ExK (K : PySem.W.Frag) (C : Addr) : Prop where
  g : PySem.W.findIn K (.ref C) "__getattribute__" = some (some (.builtin "BaseException.__getattribute__"))
  g2 : PySem.W.findIn K (.ref C) "__getattr__" = some none
  mb : PySem.W.mroIn K C (.type "BaseException") = some true
  d : PySem.W.hasDictIn K C = true
  a : PySem.W.findIn K (.ref C) "__class__" = some (some (.builtin "object.__class__"))
  n : PySem.W.specialIn K (.builtin "object.__class__") "__get__" = some (some (.builtin "getset_descriptor.__get__"))
  t : PySem.W.takesIn K (.builtin "object.__class__") = some true
  m : PySem.W.mroIn K C (.type "object") = some true
section
variable {prog : Program} {w : World} {A : Around} {E : Value -> Shared -> Prop} {s : Shared} {K : PySem.W.Frag} {C ea : Addr} {hp : Heap} {Mo : Model}
end
section
variable {T : Tb} {X : Cx}
inductive ClsV (X : Cx) (y : Str) : V -> Value -> Prop where
  | own {a : Addr} (h : X.mg y = some (.ref a)) : ClsV X y (.ref a) (.ref a)
  | bt {n : String} (h : X.mg y = none) (hv : bootBuiltins y = some (.type n)) (hn : y ≠ "__name__") : ClsV X y (.ty n) (.type n)
theorem ClsV.rel {y : Str} {vc : V} {cv : Value} (h : ClsV X y vc cv) : ∀ u, yhr vc u -> u = cv := by
  cases h with
  | own h => exact fun u q => q
  | bt h hv hn => exact fun u q => q
end
section
variable {ρ : Ev} {σ : Sto}
@[simp] theorem hit_as (t : Nat -> Option Bool) (i : Nat) (g : Ev -> M Fl) (x : Xn) : hit ⟨t, some i, g⟩ ρ x σ = (g (ρ.set i (some (.exn x.cls))) σ).bind (yj1 i) := nr rfl
@[simp] theorem unbK_nx (i : Nat) : yj1 i (.nx ρ) σ = .ok (.nx (ρ.set i none)) σ := nr rfl
@[simp] theorem unbK_rt (i : Nat) (d : D) : yj1 i (.rt d) σ = .ok (.rt d) σ := nr rfl
end
end L4
namespace L4
open PySem PySem.Spec PySem.Calls PyProof.Rows L2
section
variable {T : Tb} {X : Cx}
def ybt (x : D) : M D := fun σ => match x with
  | .int j => if (decide (0 <= j) && decide (j <= 1000)) = true then .ok (.lst (yc7 j.toNat)) σ else .bad
  | _ => .bad
@[simp] theorem zlz (j : Int) (h0 : 0 <= j) (h1 : j <= 1000) (σ : Sto) : ybt (.int j) σ = .ok (.lst (yc7 j.toNat)) σ := by
  unfold ybt; dsimp only; rw [if_pos (by simp [h0, h1])]
end
end L4
namespace HT
open PySem Builtin
open Sem (wp)
end HT
namespace L4
open PySem PySem.Spec PyProof.Rows L2
end L4
namespace HT
open PySem Builtin
open Sem (wp)
end HT
namespace L4
open PySem PySem.Spec PyProof.Rows L2
section
variable {T : Tb} {X : Cx}
def oIxB (x y : D) : M D := fun σ => match y with
  | .bl b => (match yio σ x with
    | some xs => (match xs[if b then 1 else 0]? with
      | some d => .ok d σ
      | none => .bad)
    | none => .bad)
  | _ => .bad
@[simp] theorem oIxB_t (a b : D) (r : List D) (σ : Sto) : oIxB (.lst (a :: b :: r)) (.bl true) σ = .ok b σ := nr rfl
@[simp] theorem oIxB_f (a : D) (r : List D) (σ : Sto) : oIxB (.lst (a :: r)) (.bl false) σ = .ok a σ := nr rfl
end
end L4
namespace L2
open PySem PySem.Spec PyProof.Rows
section
variable {κ : Type} [DecidableEq κ]
def yj2 (kvs : List (κ × V)) (k : κ) : Option V := (kvs.find? fun kv => decide (kv.1 = k)).map (·.2)
def yjf (kvs : List (κ × V)) (k : κ) (v : V) : List (κ × V) :=
  if (kvs.any fun kv => decide (kv.1 = k)) = true then kvs.map (fun kv => if kv.1 = k then (kv.1, v) else kv) else kvs ++ [(k, v)]
def yey (kvs : List (κ × V)) (k : κ) : List (κ × V) := kvs.filter fun kv => decide (kv.1 ≠ k)
theorem zrt {p : κ × V} {r : List (κ × V)} {k : κ} (e : p.1 = k) : yj2 (p :: r) k = some p.2 := by simp [yj2, List.find?_cons, e]
theorem zrs {p : κ × V} {r : List (κ × V)} {k : κ} (e : ¬ p.1 = k) : yj2 (p :: r) k = yj2 r k := by simp [yj2, List.find?_cons, e]
theorem zrr (k : κ) : ∀ kvs : List (κ × V), (kvs.any fun kv => decide (kv.1 = k)) = (yj2 kvs k).isSome
  | [] => rfl
  | p :: r => by
    rw [List.any_cons]
    by_cases e : p.1 = k
    · simp only [zrt e, decide_eq_true e, Bool.true_or, Option.isSome_some]
    · rw [zrs e, decide_eq_false e, Bool.false_or]; exact zrr k r
theorem zgu (kvs : List (κ × V)) (k : κ) (v : V) : (yjf kvs k v).length <= kvs.length + 1 := by
  unfold yjf
  split
  · rw [List.length_map]; omega
  · rw [List.length_append, List.length_cons, List.length_nil]; omega
theorem yhq.isSome_eq {o : Option V} {u : Option Value} (r : yhq o u) : o.isSome = u.isSome := by
  cases o with
  | none => cases u with
    | none => rfl
    | some _ => exact (show False from r).elim
  | some _ => cases u with
    | none => exact (show False from r).elim
    | some _ => rfl
theorem yhq.getD {o : Option V} {u : Option Value} {d : V} {d' : Value} (r : yhq o u) (rd : yhr d d') : yhr (o.getD d) (u.getD d') := by
  cases o with
  | none => cases u with
    | none => exact rd
    | some _ => exact (show False from r).elim
  | some _ => cases u with
    | none => exact (show False from r).elim
    | some _ => exact r
theorem KV.val {kvs : List (κ × V)} {vs : List (κ × Value)} (r : KV kvs vs) (k : κ) : yhq (yj2 kvs k) (valueAt vs k) := by
  unfold KV at r
  induction r with
  | nil => exact True.intro
  | @cons p q ps qs h t ih =>
    obtain ⟨h1, h2⟩ := h
    by_cases e : p.1 = k
    · have e' : q.1 = k := h1.symm.trans e
      have b : valueAt (q :: qs) k = some q.2 := by simp [valueAt, List.find?_cons, e']
      rw [zrt e, b]; exact h2
    · have e' : ¬ q.1 = k := fun z => e (h1.trans z)
      have b : valueAt (q :: qs) k = valueAt qs k := by simp [valueAt, List.find?_cons, e']
      rw [zrs e, b]; exact ih
theorem KV.any {kvs : List (κ × V)} {vs : List (κ × Value)} (r : KV kvs vs) (k : κ) : (kvs.any fun kv => decide (kv.1 = k)) = vs.any fun kv => decide (kv.1 = k) := by
  unfold KV at r
  induction r with
  | nil => rfl
  | cons h t ih => rw [List.any_cons, List.any_cons, ih, h.1]
theorem KV.repl {kvs : List (κ × V)} {vs : List (κ × Value)} (r : KV kvs vs) (k : κ) {y : V} {u : Value} (ry : yhr y u) :
    KV (kvs.map fun kv => if kv.1 = k then (kv.1, y) else kv) (vs.map fun kv => if kv.1 = k then (kv.1, u) else kv) := by
  unfold KV at r ⊢
  induction r with
  | nil => exact .nil
  | @cons p q ps qs h t ih =>
    rw [List.map_cons, List.map_cons]
    refine .cons ?_ ih
    obtain ⟨h1, h2⟩ := h
    by_cases e : p.1 = k
    · rw [if_pos e, if_pos (h1.symm.trans e)]; exact ⟨h1, ry⟩
    · rw [if_neg e, if_neg (fun z => e (h1.trans z))]; exact ⟨h1, h2⟩
theorem KV.put {kvs : List (κ × V)} {vs : List (κ × Value)} (r : KV kvs vs) (k : κ) {y : V} {u : Value} (ry : yhr y u) : KV (yjf kvs k y) (stored vs k u) := by
  unfold yjf stored
  rw [r.any k]
  by_cases e : (vs.any fun kv => decide (kv.1 = k)) = true
  · rw [if_pos e, if_pos e]; exact r.repl k ry
  · rw [if_neg e, if_neg e]; exact Paired.snoc r ⟨rfl, ry⟩
theorem KV.drop {kvs : List (κ × V)} {vs : List (κ × Value)} (r : KV kvs vs) (k : κ) : KV (yey kvs k) (without vs k) := by
  unfold KV at r ⊢
  unfold yey without
  induction r with
  | nil => exact .nil
  | @cons p q ps qs h t ih =>
    obtain ⟨h1, h2⟩ := h
    rw [List.filter_cons, List.filter_cons]
    by_cases e : p.1 = k
    · have a : ¬ decide (p.1 ≠ k) = true := by simp [e]
      have b : ¬ decide (q.1 ≠ k) = true := by simp [h1.symm.trans e]
      rw [if_neg a, if_neg b]; exact ih
    · have e' : ¬ q.1 = k := fun z => e (h1.trans z)
      have a : decide (p.1 ≠ k) = true := by simp [e]
      have b : decide (q.1 ≠ k) = true := by simp [e']
      rw [if_pos a, if_pos b]; exact .cons ⟨h1, h2⟩ ih
theorem KV.keys {kvs : List (κ × V)} {vs : List (κ × Value)} (r : KV kvs vs) : kvs.map (·.1) = vs.map (·.1) := by
  unfold KV at r
  induction r with
  | nil => rfl
  | cons h t ih => rw [List.map_cons, List.map_cons, ih, h.1]
theorem KV.length {kvs : List (κ × V)} {vs : List (κ × Value)} (r : KV kvs vs) : kvs.length = vs.length := Paired.length r
end
theorem yfq {P : Program} {w : World} {k : Key} {u : Value} (r : yhr (kV k) u) : (zu8 P w).is k u = true := by
  cases k with
  | inl i => obtain ⟨t, e⟩ := (show ∃ t, u = Value.int i t from r); subst e; exact zgw P w i t
  | inr x => obtain ⟨t, e⟩ := (show ∃ t, u = Value.str x t from r); subst e; exact zgx P w x t
theorem zld {P : Program} {w : World} : ∀ {ks : List Key} {us : List Value}, yhw (ks.map kV) us -> ItemsAre (zu8 P w) ks us
  | [], _, r => by rw [List.map_nil] at r; cases r; exact .nil
  | k :: ks, _, r => by
    rw [List.map_cons] at r
    cases r with
    | cons h t => exact .cons (yfq h) (zld t)
abbrev KT (H : Hp) : List (List Key × V) -> List (List Key × Addr × Value) -> Prop := Paired fun p q => p.1 = q.1 /\ H q.2.1 = some (.tup (p.1.map kV)) /\ yhr p.2 q.2.2
theorem KT.val {H : Hp} {kvs : List (List Key × V)} {xs : List (List Key × Addr × Value)} (r : KT H kvs xs) (k : List Key) : yhq (yj2 kvs k) ((atKey xs k).map (·.2)) := by
  induction r with
  | nil => exact True.intro
  | @cons p q ps qs h t ih =>
    obtain ⟨h1, _, h2⟩ := h
    by_cases e : p.1 = k
    · have e' : q.1 = k := h1.symm.trans e
      have b : atKey (q :: qs) k = some q.2 := by simp [atKey, List.find?_cons, e']
      rw [zrt e, b]; exact h2
    · have e' : ¬ q.1 = k := fun z => e (h1.trans z)
      have b : atKey (q :: qs) k = atKey qs k := by simp [atKey, List.find?_cons, e']
      rw [zrs e, b]; exact ih
theorem KT.repl {H : Hp} {kvs : List (List Key × V)} {xs : List (List Key × Addr × Value)} (r : KT H kvs xs) (k : List Key) {y : V} {u : Value} (ry : yhr y u) :
    KT H (kvs.map fun kv => if kv.1 = k then (kv.1, y) else kv) (xs.map (putAt k u)) := by
  induction r with
  | nil => exact .nil
  | @cons p q ps qs h t ih =>
    rw [List.map_cons, List.map_cons]
    refine .cons ?_ ih
    obtain ⟨h1, h2, h3⟩ := h
    unfold putAt
    by_cases e : p.1 = k
    · rw [if_pos e, if_pos (h1.symm.trans e)]; exact ⟨h1, h2, ry⟩
    · rw [if_neg e, if_neg (fun z => e (h1.trans z))]; exact ⟨h1, h2, h3⟩
theorem KT.put {H : Hp} {kvs : List (List Key × V)} {xs : List (List Key × Addr × Value)} (r : KT H kvs xs) (k : List Key) {b : Addr} {y : V} {u : Value} (hb : H b = some (.tup (k.map kV))) (ry : yhr y u) :
    KT H (yjf kvs k y) (storedH xs k b u) := by
  have e : (kvs.any fun kv => decide (kv.1 = k)) = (atKey xs k).isSome := by
    rw [zrr, (r.val k).isSome_eq, Option.isSome_map]
  unfold yjf storedH
  rw [e]
  by_cases q : (atKey xs k).isSome = true
  · rw [if_pos q, if_pos q]; exact r.repl k ry
  · rw [if_neg q, if_neg q]; exact Paired.snoc r ⟨rfl, hb, ry⟩
theorem KT.keeps {H H' : Hp} {kvs : List (List Key × V)} {xs : List (List Key × Addr × Value)} (r : KT H kvs xs) (ht : ∀ b ys, H b = some (.tup ys) -> H' b = some (.tup ys)) : KT H' kvs xs :=
  Paired.mapP r fun _ _ z => ⟨z.1, ht _ _ z.2.1, z.2.2⟩
section
variable {P : Program} {w : World} {H : Hp} {h : Heap} {a : Addr}
theorem ygt {u : HO} (ok : HOk P w H h) (e : Rd H a u) : yed P w H h a u := e.ok ok
theorem yex {kvs : List (Key × V)} (ok : HOk P w H h) (e : Rd H a (.dK kvs)) : kvs.length <= sizeLine /\ (a == sysModules) = false /\ ∃ vs, KV kvs vs /\ h.DictOf (zu8 P w) a vs :=
  show yed P w H h a (.dK kvs) from ygt ok e
theorem yew {kvs : List (Key × V)} (ok : HOk P w H h) (e : H a = some (.dK kvs)) : kvs.length <= sizeLine /\ (a == sysModules) = false /\ ∃ vs, KV kvs vs /\ h.DictOf (zu8 P w) a vs := yex ok (.inl e)
theorem yax {ks : List Key} (ok : HOk P w H h) (e : H a = some (.tup (ks.map kV))) : (tupleKind (zu8 P w)).is h ks a := by
  obtain ⟨_, its, r, o, h1, h2, n, h3⟩ := (show yed P w H h a (.tup (ks.map kV)) from ok a _ e)
  exact ⟨o, its.toArray, n, h1, h2, h3, by simpa using zld r⟩
theorem yez {kvs : List (List Key × V)} (ok : HOk P w H h) (e : Rd H a (.dT kvs)) : kvs.length <= sizeLine /\ (a == sysModules) = false /\
    ∃ xs, KT H kvs xs /\ h.DictOfH (tupleKind (zu8 P w)) a xs := by
  obtain ⟨z, y, xs, r, o, es, ep, h1, h2, h3, h4, h5⟩ := (show yed P w H h a (.dT kvs) from ygt ok e)
  refine ⟨z, y, xs, r, o, es, ep, h1, h2, h3, h4, fun x hx => ?_, h5⟩
  have all : ∀ {l : List (List Key × V)} {m : List (List Key × Addr × Value)}, KT H l m -> ∀ x ∈ m, (tupleKind (zu8 P w)).is h x.1 x.2.1 := by
    intro l m q
    induction q with
    | nil => intro x hx; exact nomatch hx
    | @cons p q ps qs hq t ih =>
      intro x hx
      rcases List.mem_cons.mp hx with e | hx
      · subst e
        exact yax ok (by rw [<- hq.1]; exact hq.2.1)
      · exact ih x hx
  exact all r x hx
theorem dt_of {kvs : List (List Key × V)} (ok : HOk P w H h) (e : H a = some (.dT kvs)) : kvs.length <= sizeLine /\ (a == sysModules) = false /\
    ∃ xs, KT H kvs xs /\ h.DictOfH (tupleKind (zu8 P w)) a xs := yez ok (.inl e)
end
def yhj (H : Hp) (a : Addr) (y : V) (r : Option V) : Prop :=
  (∃ kvs k, Rd H a (.dK kvs) /\ y = kV k /\ r = yj2 kvs k) \/ ∃ kvs k b, Rd H a (.dT kvs) /\ y = .ref b /\ H b = some (.tup (k.map kV)) /\ r = yj2 kvs k
def yhk (H : Hp) (a : Addr) (y v : V) (H' : Hp) : Prop :=
  (∃ kvs k, H a = some (.dK kvs) /\ y = kV k /\ kvs.length < sizeLine /\ H' = upd H a (.dK (yjf kvs k v))) \/
  ∃ kvs k b, H a = some (.dT kvs) /\ y = .ref b /\ H b = some (.tup (k.map kV)) /\ kvs.length < sizeLine /\ H' = upd H a (.dT (yjf kvs k v))
theorem yhj.k {H : Hp} {a : Addr} {kvs : List (Key × V)} {k : Key} (e : H a = some (.dK kvs)) : yhj H a (kV k) (yj2 kvs k) := .inl ⟨kvs, k, .inl e, rfl, rfl⟩
theorem yhj.t {H : Hp} {a b : Addr} {kvs : List (List Key × V)} {k : List Key} (e : H a = some (.dT kvs)) (eb : H b = some (.tup (k.map kV))) : yhj H a (.ref b) (yj2 kvs k) := .inr ⟨kvs, k, b, .inl e, rfl, eb, rfl⟩
theorem yhk.k {H : Hp} {a : Addr} {kvs : List (Key × V)} {k : Key} {v : V} (e : H a = some (.dK kvs)) (hl : kvs.length < sizeLine) : yhk H a (kV k) v (upd H a (.dK (yjf kvs k v))) := .inl ⟨kvs, k, e, rfl, hl, rfl⟩
theorem yhk.t {H : Hp} {a b : Addr} {kvs : List (List Key × V)} {k : List Key} {v : V} (e : H a = some (.dT kvs)) (eb : H b = some (.tup (k.map kV))) (hl : kvs.length < sizeLine) :
    yhk H a (.ref b) v (upd H a (.dT (yjf kvs k v))) := .inr ⟨kvs, k, b, e, rfl, eb, hl, rfl⟩
section
variable {X : Cx} {pins : List (Addr × Obj)} {σ : St} {H : Hp} {s : Shared} {a : Addr} {y v : V} {u r : Value} {o : Option V} {A : Around} {E : Value -> Shared -> Prop}
theorem Inv.big (I : Inv X pins σ H s) : sysModules < s.heap.objs.size := by
  have h : mainGlobals < s.heap.objs.size := (I.mod.glob.keeps I.bk).lt
  exact Nat.lt_trans (by decide) h
theorem zkp {Q : Value -> Shared -> Prop} (hu : A.units + 1 < cLine) (I : Inv X pins σ H s) (g : yhj H a y (some v)) (ry : yhr y u) (h : ∀ w' s', Inv X pins σ H s' -> yhr v w' -> Q w' s') :
    wpAny (model X.prog X.w) A (getItem (.ref a) u) Q E s := by
  rcases g with ⟨kvs, k, e, ey, l⟩ | ⟨kvs, k, b, e, ey, eb, l⟩
  · subst ey
    obtain ⟨z, hd, vs, rel, dd⟩ := yex I.hok e
    obtain ⟨w', hw, rw'⟩ := yhq.some_of (v := v) (o := valueAt vs k) (by rw [l]; exact rel.val k)
    exact wpAny_getItem_of (yfq ry) dd.mapOf hw (h w' _ (I.tok _) rw')
  · subst ey
    cases (show u = Value.ref b from ry)
    obtain ⟨z, hd, xs, rel, dd⟩ := yez I.hok e
    obtain ⟨w', hw, rw'⟩ := yhq.some_of (v := v) (o := (atKey xs k).map (·.2)) (by rw [l]; exact rel.val k)
    obtain ⟨p, hp, hp2⟩ := Option.map_eq_some_iff.mp hw
    refine wpAny_getItem_heap (tupleKind_room_in1 hu) (yax I.hok eb) dd hp ?_
    rw [hp2]
    exact h w' _ (I.tok _) rw'
theorem d_in {Q : Value -> Shared -> Prop} (hu : A.units + 1 < cLine) (I : Inv X pins σ H s) (g : yhj H a y o) (ry : yhr y u) (h : ∀ s', Inv X pins σ H s' -> Q (.bool o.isSome) s') :
    wpAny (model X.prog X.w) A (compareOp .In u (.ref a)) Q E s := by
  rcases g with ⟨kvs, k, e, ey, l⟩ | ⟨kvs, k, b, e, ey, eb, l⟩
  · subst ey
    obtain ⟨z, hd, vs, rel, dd⟩ := yex I.hok e
    refine wpAny_in_of (yfq ry) hd dd.mapOf ?_
    rw [<- (rel.val k).isSome_eq, <- l]
    exact h _ (I.tok _)
  · subst ey
    cases (show u = Value.ref b from ry)
    obtain ⟨z, hd, xs, rel, dd⟩ := yez I.hok e
    refine wpAny_in_heap (tupleKind_room_in1 hu) (yax I.hok eb) hd dd ?_
    have q := (rel.val k).isSome_eq
    rw [Option.isSome_map] at q
    rw [<- q, <- l]
    exact h _ (I.tok _)
theorem zsw {Q : Value -> Shared -> Prop} (hu : A.units + 1 < cLine) (I : Inv X pins σ H s) (g : yhj H a y o) (ry : yhr y u) (h : ∀ s', Inv X pins σ H s' -> Q (.bool (!o.isSome)) s') :
    wpAny (model X.prog X.w) A (compareOp .NotIn u (.ref a)) Q E s := by
  rcases g with ⟨kvs, k, e, ey, l⟩ | ⟨kvs, k, b, e, ey, eb, l⟩
  · subst ey
    obtain ⟨z, hd, vs, rel, dd⟩ := yex I.hok e
    refine wpAny_notIn_of (yfq ry) hd dd.mapOf ?_
    rw [<- (rel.val k).isSome_eq, <- l]
    exact h _ (I.tok _)
  · subst ey
    cases (show u = Value.ref b from ry)
    obtain ⟨z, hd, xs, rel, dd⟩ := yez I.hok e
    refine wpAny_notIn_heap (tupleKind_room_in1 hu) (yax I.hok eb) hd dd ?_
    have q := (rel.val k).isSome_eq
    rw [Option.isSome_map] at q
    rw [<- q, <- l]
    exact h _ (I.tok _)
theorem zsx {h' : Heap} {t' : Nat} {ob : HO} (I : Inv X pins σ H s) (mu : Mut (H a)) (hs : Heap.SameBut a s.heap h') (he : ∃ q, h'.get? a = some q) (new : yed X.prog X.w (upd H a ob) h' a ob) :
    Inv X pins σ (upd H a ob) { s with heap := h', toks := t' } :=
  I.write (x := a) (e := a) mu (.inl rfl) (fun b q hb z => (hs.2 b hb).trans z) he new
theorem zy5 {P : Program} {w : World} {H' : Hp} {h' : Heap} {kvs : List (Key × V)} {vs : List (Key × Value)} (z : kvs.length <= sizeLine) (hd : (a == sysModules) = false) (rel : KV kvs vs) (dd : h'.DictOf (zu8 P w) a vs) :
    yed P w H' h' a (.dK kvs) := ⟨z, hd, vs, rel, dd⟩
theorem zkq {H' : Hp} {Q : Unit -> Shared -> Prop} (hu : A.units + 1 < cLine) (I : Inv X pins σ H s) (g : yhk H a y v H') (ry : yhr y u) (rv : yhr v r) (h : ∀ s', Inv X pins σ H' s' -> Q () s') :
    wpAny (model X.prog X.w) A (setItem (.ref a) u r) Q E s := by
  rcases g with ⟨kvs, k, e, ey, l, eH⟩ | ⟨kvs, k, b, e, ey, eb, l, eH⟩
  · subst ey eH
    obtain ⟨z, hd, vs, rel, dd⟩ := yew I.hok e
    have hz : vs.length <= sizeLine := by rw [<- rel.length]; exact z
    have hl : (yjf kvs k v).length <= sizeLine := by have := zgu kvs k v; omega
    refine wpAny_setItem_pairs (hsz := hz) (yfq ry) dd fun h' dd' hs => h _ ?_
    have he : ∃ q, h'.get? a = some q := let ⟨q, _, _, hq, _⟩ := dd'; ⟨q, hq⟩
    exact zsx I (by rw [e]; exact True.intro) hs he (zy5 hl hd (rel.put k rv) dd')
  · subst ey eH
    cases (show u = Value.ref b from ry)
    obtain ⟨z, hd, xs, rel, dd⟩ := dt_of I.hok e
    have hz : xs.length <= sizeLine := by rw [<- Paired.length rel]; exact z
    have hl : (yjf kvs k v).length <= sizeLine := by have := zgu kvs k v; omega
    refine wpAny_setItem_heap (hsz := hz) (tupleKind_room_in1 hu) (yax I.hok eb) dd fun h' dd' hs => h _ ?_
    obtain ⟨q, es, ep, hq, h2, h3, h4, _, h5⟩ := dd'
    refine zsx I (by rw [e]; exact True.intro) hs ⟨q, hq⟩ ⟨hl, hd, _, (rel.put k eb rv).keeps fun c ys ec => ?_, q, es, ep, hq, h2, h3, h4, h5⟩
    rw [upd_ne (yf6 ec e (fun z => nomatch z))]
    exact ec
end
section
variable {X : Cx} {pins : List (Addr × Obj)} {σ : St} {H : Hp} {s : Shared} {a : Addr} {kvs : List (Key × V)} {k : Key} {u : Value} {A : Around} {E : Value -> Shared -> Prop}
end
def NoSl (i : Expr) : Prop := ∀ ov iv, subscripted i false ov iv = operate [ov, iv] (getItem ov iv)
theorem zx6 {prog : Program} {w : World} {A : Around} {E : Value -> Shared -> Prop} {s : Shared} {env : Env} {value slice : Expr} {pos : Pos} {T id : String} {Q : Value -> Shared -> Prop}
    (hl : typeLookup (.type T) "__getitem__" = pure (some (.builtin id))) (hs : NoSl slice)
    (h : wpAny (model prog w) A (eval value env) (fun o s₁ => wpAny (model prog w) A (eval slice env) (fun i s₂ => s₂.TypeIs o T /\ wpAny (model prog w) A (getItem o i) Q E s₂) E s₁) E s) :
    wpAny (model prog w) A (eval (.Subscript value slice pos) env) Q E s := by
  refine Subscript_ (wpAny_mono h (fun o s₁ h₁ => wpAny_mono h₁ (fun i s₂ h₂ => ?_) fun _ _ x => x) fun _ _ x => x)
  obtain ⟨hT, h₂⟩ := h₂
  unfold subscriptTail
  refine wpAny_bind ?_
  rw [getitemInPython_of_ne hT.not_modules]
  refine wpAny_bind (wpAny_specialOf hT hl ?_)
  have fin : wpAny (model prog w) A (subscripted slice false o i) (fun r s₃ => wpAny (model prog w) A (letTemporaryGo value o r >>= fun _ => pure r) Q E s₃) E s₂ := by
    rw [hs o i]
    exact wpAny_operating (wpAny_mono h₂ (fun r s₃ h₃ => wpAny_bind (wpAny_letTemporaryGo (wpAny_pure h₃))) fun _ _ x => x)
  first
    | exact wpAny_pure (wpAny_bind fin)
    | exact wpAny_bind (wpAny_pure (wpAny_bind fin))
    | exact wpAny_bind fin
theorem zgh {X : Cx} {pins : List (Addr × Obj)} {σ : St} {H : Hp} {s : Shared} {a : Addr} {y : V} {o : Option V} (I : Inv X pins σ H s) (g : yhj H a y o) : s.TypeIs (.ref a) "dict" := by
  rcases g with ⟨kvs, k, e, _, _⟩ | ⟨kvs, k, b, e, _, _, _⟩
  · obtain ⟨_, _, vs, _, dd⟩ := yex I.hok e
    exact dd.typeIs
  · obtain ⟨_, _, xs, _, dd⟩ := yez I.hok e
    exact dd.typeIs
def tDGet (td ty : TE) : TE := fun σ H Q => td σ H fun x H1 => ty σ H1 fun y H2 => ∃ a v, x = .ref a /\ yhj H2 a y (some v) /\ Q v H2
section
variable {X : Cx} {o i e value : Expr} {pos pos' tpos : Pos} {td ty tv : TE}
theorem zwb (hu : X.A.units + 1 < cLine) (ho : PE X o td) (hi : PE X i ty) (hs : NoSl i) : PE X (.Subscript o i pos) (tDGet td ty) := by
  intro pins s σ H Q I h
  refine zx6 PySem.F.slot_dict_getitem.lookup hs (thn (ho pins s σ H _ I h) fun u s1 ⟨x, H1, I1, rx, q1⟩ => thn (hi pins s1 σ H1 _ I1 q1) fun iv s2 ⟨y, H2, I2, ry, a, v, ex, g, q2⟩ => ?_)
  subst ex
  obtain rfl : u = Value.ref a := rx
  exact ⟨zgh I2 g, zkp hu I2 g ry fun w' s3 I3 rw' => ⟨v, H2, I3, rw', q2⟩⟩
end
theorem zny {P : Program} {w : World} {H : Hp} (h : Heap) (hb : sysModules < h.objs.size) : yed P w H (h.push { cls := .type "dict", data := .dict #[] }) h.objs.size (.dK []) :=
  ⟨Nat.zero_le _, beq_eq_false_iff_ne.mpr (Ne.symm (Nat.ne_of_lt hb)), [], .nil, Heap.DictOf.new h⟩
def ydw : TE := fun _ H Q => ∀ p, H p = none -> Q (.ref p) (upd H p (.dK []))
section
variable {X : Cx} {pos : Pos}
theorem zqf : PE X (.Dict [] [] pos) ydw := fun pins s σ H Q I h =>
  wpAny_Dict_empty ⟨.ref s.heap.objs.size, _, I.laid (a := s.heap.objs.size) (o := .dK []) (t' := s.toks) (fun _ _ q => Heap.get?_push_of_some _ q) (Nat.le_refl _) (zny s.heap I.big), rfl, h _ (I.hok.fresh (Nat.le_refl _))⟩
end
section
variable {X : Cx} {pins : List (Addr × Obj)} {σ : St} {H : Hp} {s : Shared} {a : Addr} {kvs : List (Key × V)} {A : Around} {E : Value -> Shared -> Prop}
theorem znv {Q : Value -> Shared -> Prop} (I : Inv X pins σ H s) (e : Rd H a (.dK kvs)) (h : ∀ p s', H p = none -> Inv X pins σ (upd H p (.dK kvs)) s' -> Q (.ref p) s') : wpAny (model X.prog X.w) A (call (.type "dict") [.ref a]) Q E s := by
  obtain ⟨z, hd, vs, rel, dd⟩ := yex I.hok e
  refine kt_call_dict hd dd (by rw [<- rel.length]; exact z) fun h' dd' hs => ?_
  refine h _ _ (I.hok.fresh (Nat.le_refl _)) (I.laid (a := s.heap.objs.size) (o := .dK kvs) (t' := s.toks) (fun b q hq => ?_) (Nat.le_refl _) (zy5 z (beq_eq_false_iff_ne.mpr (Ne.symm (Nat.ne_of_lt I.big))) rel dd'))
  exact (hs.2 b (Nat.ne_of_lt (Heap.lt_size hq))).trans (Heap.get?_push_of_some _ hq)
end
end L2
namespace L4
open PySem PySem.Spec PyProof.Rows L2
def yim : D -> Option Key
  | .int i => some (.inl i)
  | .str x => some (.inr x)
  | _ => none
def yh7 (σ : Sto) : D -> Option (List (Key × D))
  | .dic ks xs => if ks.length = xs.length then some (ks.zip xs) else none
  | .ref n => (match σ[n]? with
    | some (.dic kvs) => some kvs
    | _ => none)
  | _ => none
def yfe (kvs : List (Key × D)) (k : Key) : Option D := (kvs.find? fun kv => decide (kv.1 = k)).map (·.2)
def ygn (kvs : List (Key × D)) (k : Key) (d : D) : List (Key × D) :=
  if kvs.any (fun kv => decide (kv.1 = k)) then kvs.map fun kv => if kv.1 = k then (kv.1, d) else kv else kvs ++ [(k, d)]
section
variable {T : Tb} {X : Cx} {μ : List Addr} {H : Hp}
theorem zus {y : D} {v : V} {k : Key} (h : Rep T μ H y v) (e : yim y = some k) : v = kV k := by
  cases y <;> simp [yim] at e <;> subst e <;> rw [Rep] at h <;> exact h
theorem zqs : ∀ {ks : List Key} {ds : List D} {kvs : List (Key × V)}, kvs.map (·.1) = ks -> yhu T μ H ds (kvs.map (·.2)) -> yht T μ H (ks.zip ds) kvs
  | ks, [], kvs, h1, h2 => by
    rw [yhu] at h2
    have : kvs = [] := by simpa using h2
    subst this
    rw [<- h1]; exact .nil
  | ks, d :: ds, kvs, h1, h2 => by
    rw [yhu] at h2
    obtain ⟨v, r, e, q1, q2⟩ := h2
    cases kvs with
    | nil => cases e
    | cons p kvs =>
      rw [List.map_cons] at e h1
      cases e
      rw [<- h1]
      exact .cons ⟨rfl, q1⟩ (zqs rfl q2)
theorem yc8 {σ : Sto} (r : Rel T μ H σ) {x : D} {v : V} {kvs : List (Key × D)} (h : Rep T μ H x v) (e : yh7 σ x = some kvs) : ∃ a vs, v = .ref a /\ H a = some (.dK vs) /\ yht T μ H kvs vs := by
  cases x with
  | dic ks xs =>
    rw [Rep] at h
    obtain ⟨a, vs, rfl, _, h1, h2, h3⟩ := h
    unfold yh7 at e
    dsimp only at e
    split at e
    · cases e; exact ⟨a, vs, rfl, h1, zqs h2 h3⟩
    · cases e
  | ref n =>
    unfold yh7 at e
    dsimp only at e
    cases q : σ[n]? with
    | none => rw [q] at e; cases e
    | some o =>
      rw [q] at e
      cases o with
      | dic kvs' =>
        cases e
        obtain ⟨a, rfl, _, vs, h1, h2⟩ := r.at h q
        exact ⟨a, vs, rfl, h1, h2⟩
      | _ => cases e
  | _ => cases e
theorem zol {kvs : List (Key × D)} {vs : List (Key × V)} (h : yht T μ H kvs vs) (k : Key) : (yfe kvs k = none /\ yj2 vs k = none) \/ ∃ d v, yfe kvs k = some d /\ yj2 vs k = some v /\ Rep T μ H d v := by
  unfold yht at h
  induction h with
  | nil => exact .inl ⟨rfl, rfl⟩
  | @cons p q ps qs h t ih =>
    obtain ⟨h1, h2⟩ := h
    by_cases e : p.1 = k
    · have e' : q.1 = k := h1.symm.trans e
      exact .inr ⟨p.2, q.2, by unfold yfe; rw [List.find?_cons, decide_eq_true e]; rfl, zrt e', h2⟩
    · have e' : ¬ q.1 = k := fun z => e (h1.trans z)
      have f : yfe (p :: ps) k = yfe ps k := by unfold yfe; rw [List.find?_cons, decide_eq_false e]
      rw [f, zrs e']; exact ih
theorem zr5 {kvs : List (Key × D)} {vs : List (Key × V)} (h : yht T μ H kvs vs) (k : Key) : (kvs.any fun kv => decide (kv.1 = k)) = (vs.any fun kv => decide (kv.1 = k)) := by
  unfold yht at h
  induction h with
  | nil => rfl
  | @cons p q ps qs h t ih => rw [List.any_cons, List.any_cons, ih, h.1]
theorem zi8 {α β : Type} {F : α -> β -> Prop} {f : α -> α} {g : β -> β} (hfg : ∀ a b, F a b -> F (f a) (g b)) : ∀ {l : List α} {m : List β}, Paired F l m -> Paired F (l.map f) (m.map g)
  | _, _, .nil => .nil
  | _, _, .cons h t => .cons (hfg _ _ h) (zi8 hfg t)
theorem zha {α β : Type} {F : α -> β -> Prop} {a : α} {b : β} (hab : F a b) : ∀ {l : List α} {m : List β}, Paired F l m -> Paired F (l ++ [a]) (m ++ [b])
  | _, _, .nil => .cons hab .nil
  | _, _, .cons h t => .cons h (zha hab t)
theorem znz {kvs : List (Key × D)} {vs : List (Key × V)} (h : yht T μ H kvs vs) (k : Key) {d : D} {v : V} (hd : Rep T μ H d v) : yht T μ H (ygn kvs k d) (yjf vs k v) := by
  unfold ygn yjf
  rw [zr5 h k]
  split
  · refine zi8 (fun p q h => ?_) h
    by_cases e : p.1 = k
    · rw [if_pos e, if_pos (h.1.symm.trans e)]; exact ⟨h.1, hd⟩
    · rw [if_neg e, if_neg (fun z => e (h.1.trans z))]; exact h
  · exact zha ⟨rfl, hd⟩ h
theorem yht.mono {μ' : List Addr} {H' : Hp} (e : Ext μ H μ' H') {kvs : List (Key × D)} {vs : List (Key × V)} (h : yht T μ H kvs vs) : yht T μ' H' kvs vs := Paired.mapP h fun _ _ z => ⟨z.1, Rep.mono e _ _ z.2⟩
def yga (x y : D) : M D := fun σ => match yim y with
  | some k => (match yh7 σ x with
    | some kvs => (match yfe kvs k with
      | some d => .ok d σ
      | none => .bad)
    | none => .bad)
  | none => .bad
theorem zti {o i : Expr} {fo fi : Ev -> M D} {pos : Pos} (hu : X.A.units + 9 < cLine) (ho : FE T X o fo) (hi : FE T X i fi) (hs : NoSl i) : FE T X (.Subscript o i pos) (yh9 yga fo fi) := by
  intro pins s st H Q I h
  refine zwb (by omega) ho hi hs pins s st H Q I ?_
  obtain ⟨μ, ρ, σ, hE, hr, hp⟩ := h
  refine ⟨μ, ρ, σ, hE, hr, hp.bind fun x σ1 μ1 v H1 _ e1 r1 q1 p1 => ⟨μ1, ρ, σ1, hE.mono e1, r1, p1.bind fun y σ2 μ2 u H2 _ e2 r2 q2 p2 => ?_⟩⟩
  unfold yga at p2
  cases ek : yim y with
  | none => rw [ek] at p2; exact p2.elim
  | some k =>
    rw [ek] at p2
    dsimp only at p2
    cases ed : yh7 σ2 x with
    | none => rw [ed] at p2; exact p2.elim
    | some kvs =>
      rw [ed] at p2
      dsimp only at p2
      obtain ⟨a, vs, rfl, h1, h2⟩ := yc8 r2 (Rep.mono e2 _ _ q1) ed
      obtain rfl := zus q2 ek
      rcases zol h2 k with ⟨z1, _⟩ | ⟨d, w, z1, z2, z3⟩
      · rw [z1] at p2; exact p2.elim
      · rw [z1] at p2
        exact ⟨a, w, rfl, by rw [<- z2]; exact yhj.k h1, yhp.here p2 r2 z3⟩
def rDIn : R2 := fun y x H Q => ∃ a o, x = .ref a /\ yhj H a y o /\ Q (.bl o.isSome) H
theorem yb7 (hu : X.A.units + 9 < cLine) : OpR X (compareOp .In) rDIn := by
  intro pins s st H y x iv u Q I ry rx h
  obtain ⟨a, o, rfl, g, q⟩ := h
  obtain rfl : u = Value.ref a := rx
  exact d_in (by omega) I g ry fun s3 I3 => ⟨.bl o.isSome, H, I3, rfl, q⟩
def yiu (y x : D) : M D := fun σ => match yim y with
  | some k => (match yh7 σ x with
    | some kvs => .ok (.bl (yfe kvs k).isSome) σ
    | none => .bad)
  | none => .bad
theorem zxp : yeg T rDIn yiu := by
  intro E μ H σ y x u v Q r q p h
  unfold yiu at h
  cases ek : yim y with
  | none => rw [ek] at h; exact h.elim
  | some k =>
    rw [ek] at h
    dsimp only at h
    cases ed : yh7 σ x with
    | none => rw [ed] at h; exact h.elim
    | some kvs =>
      rw [ed] at h
      obtain ⟨a, vs, rfl, h1, h2⟩ := yc8 r p ed
      obtain rfl := zus q ek
      refine ⟨a, yj2 vs k, rfl, yhj.k h1, yhp.here h r ?_⟩
      rw [Rep]
      rcases zol h2 k with ⟨z1, z2⟩ | ⟨d, w, z1, z2, z3⟩
      · rw [z1, z2]; rfl
      · rw [z1, z2]; rfl
def rSetD : TSet := fun x y v H Q => ∃ a H', x = .ref a /\ yhk H a y v H' /\ Q H'
theorem zq5 (hu : X.A.units + 9 < cLine) : PSet X rSetD := by
  intro pins s st H o i v ov iv u Q I ro ri rv h
  obtain ⟨a, H', rfl, g, q⟩ := h
  obtain rfl : ov = Value.ref a := ro
  exact zkq (by omega) I g ri rv fun s4 I4 => ⟨H', I4, q⟩
def yg3 (ρ : Ev) (d x : D) (y : D) : M Fl := fun σ => match x with
  | .ref n => (match yim y with
    | some k => (match σ[n]? with
      | some (.dic kvs) => if kvs.length < cap then .ok (.nx ρ) (σ.set n (.dic (ygn kvs k d))) else .bad
      | _ => .bad)
    | none => .bad)
  | _ => .bad
def yg2 (ρ : Ev) (fi : Ev -> M D) (d x : D) : M Fl := xs ρ (fi ρ) (yg3 ρ d x)
def yg1 (ρ : Ev) (fo fi : Ev -> M D) (d : D) : M Fl := xs ρ (fo ρ) (yg2 ρ fi d)
def ygw (f fo fi : Ev -> M D) : Ev -> M Fl := fun ρ => xs ρ (f ρ) (yg1 ρ fo fi)
theorem zt1 {e o i : Expr} {f fo fi : Ev -> M D} {pos pos' : Pos} (hu : X.A.units + 9 < cLine) (he : FE T X e f) (ho : FE T X o fo) (hi : FE T X i fi)
    (ha : ∀ v, assign (.Subscript o i pos') X.env v = (do
      let ov <- holding [v] (eval o X.env)
      let iv <- holding [v, ov] (eval i X.env)
      standAt pos'
      holding [v, ov, iv] (setItem ov iv v)
      release [v, ov, iv] []) := by intro _; rfl)
    (hs : swapsWithSole [.Subscript o i pos'] e pos.line X.env = pure false := by rfl) (hw : swappedStores [.Subscript o i pos'] e X.env = pure none := by rfl)
    (h1 : (assignEach [.Subscript o i pos'] X.env).map (·.2) = [assign (.Subscript o i pos') X.env] := by rfl) : FS T X (.Assign [.Subscript o i pos'] e pos) (ygw f fo fi) := by
  intro pins s st H D I hq
  refine ycw he (ycs ho hi (zq5 hu) ha) hs hw h1 pins s st H D I ?_
  obtain ⟨μ, ρ, σ, hE, hr, hp⟩ := hq
  refine ⟨μ, ρ, σ, hE, hr, hp.xs hE fun d σ1 μ1 v H1 _ e1 r1 q1 p1 => ?_⟩
  refine ⟨μ1, ρ, σ1, hE.mono e1, r1, p1.xs (hE.mono e1) fun x σ2 μ2 vo H2 _ e2 r2 q2 p2 => ?_⟩
  refine ⟨μ2, ρ, σ2, (hE.mono e1).mono e2, r2, p2.xs ((hE.mono e1).mono e2) fun y σ3 μ3 vi H3 _ e3 r3 q3 p3 => ?_⟩
  have hd := Rep.mono e3 _ _ (Rep.mono e2 _ _ q1)
  have hx := Rep.mono e3 _ _ q2
  unfold yg3 at p3
  cases x with
  | ref n =>
    dsimp only at p3
    cases ek : yim y with
    | none => rw [ek] at p3; exact p3.elim
    | some k =>
      rw [ek] at p3
      dsimp only at p3
      cases el : σ3[n]? with
      | none => rw [el] at p3; exact p3.elim
      | some ob =>
        rw [el] at p3
        cases ob with
        | dic kvs =>
          dsimp only at p3
          by_cases hc : kvs.length < cap
          · rw [if_pos hc] at p3
            obtain ⟨a, rfl, hn, vs, g1, g2⟩ := r3.at hx el
            obtain rfl := zus q3 ek
            have wr := r3.write (o := .dK (yjf vs k v)) (ob := .dic (ygn kvs k d)) hn ⟨_, upd_same, by
              have ex : Ext μ3 H3 μ3 (upd H3 a (.dK (yjf vs k v))) := zkv (List.mem_of_getElem? hn) g1 (fun _ z => by cases z) (fun _ _ z => by cases z)
              exact znz (yht.mono ex g2) k (Rep.mono ex _ _ hd)⟩
            have hlen : vs.length = kvs.length := by unfold yht at g2; exact (Paired.length g2).symm
            exact ⟨a, _, rfl, yhk.k g1 (by rw [hlen]; exact Nat.lt_of_lt_of_le hc (by decide)), p3 _ (.nx st) _ wr.1 wr.2 (((hE.mono e1).mono e2).mono e3 |>.mono wr.1)⟩
          · rw [if_neg hc] at p3; exact p3.elim
        | _ => exact p3.elim
  | _ => exact p3.elim
def ye3 : Ev -> M D := fun _ σ => .ok (.ref σ.length) (σ ++ [.dic []])
theorem ztj {pos : Pos} : FE T X (.Dict [] [] pos) ye3 := by
  intro pins s st H Q I h
  obtain ⟨μ, ρ, σ, hE, hr, hp⟩ := h
  refine zqf pins s st H Q I fun p hn => ?_
  exact hp (μ ++ [p]) (.ref p) _ (zn8 hn) (hr.push hn ⟨[], upd_same, .nil⟩) (zqr hr)
def rDcp : List V -> Hp -> VK -> Prop := fun xs H Q => ∃ a kvs, xs = [.ref a] /\ H a = some (.dK kvs) /\ ∀ p, H p = none -> Q (.ref p) (upd H p (.dK kvs))
theorem znh : yd8 X (.type "dict") rDcp := by
  intro pins s st H xs us Q I r h
  obtain ⟨a, kvs, rfl, e, q⟩ := h
  obtain ⟨u, rfl, ru⟩ := yhg r
  cases ru
  exact znv I (.inl e) fun p s' hn I' => ⟨.ref p, _, I', rfl, q p hn⟩
def yiv (ds : List D) : M D := fun σ => match ds with
  | [x] => (match yh7 σ x with
    | some kvs => .ok (.dic (kvs.map (·.1)) (kvs.map (·.2))) σ
    | none => .bad)
  | _ => .bad
theorem zww : ∀ {kvs : List (Key × D)} {vs : List (Key × V)}, yht T μ H kvs vs -> vs.map (·.1) = kvs.map (·.1) /\ yhu T μ H (kvs.map (·.2)) (vs.map (·.2))
  | _, _, .nil => ⟨rfl, yhu.nil⟩
  | _, _, .cons h t => by
    obtain ⟨z1, z2⟩ := zww t
    exact ⟨by rw [List.map_cons, List.map_cons, z1, h.1], yhu.cons h.2 z2⟩
theorem zxo : zr0 T rDcp yiv := by
  intro E μ H σ ds vs Q r p h
  match ds with
  | [] => exact h.elim
  | [x] =>
    unfold yiv at h
    dsimp only at h
    cases ed : yh7 σ x with
    | none => rw [ed] at h; exact h.elim
    | some kvs =>
      rw [ed] at h
      rw [yhu] at p
      obtain ⟨v, r', rfl, q1, q2⟩ := p
      rw [yhu] at q2
      subst q2
      obtain ⟨a, ws, rfl, h1, h2⟩ := yc8 r q1 ed
      refine ⟨a, ws, rfl, h1, fun l hn => ?_⟩
      obtain ⟨z1, z2⟩ := zww h2
      exact h μ (.ref l) _ (ztf hn) (r.fresh hn) (by rw [Rep]; exact ⟨l, ws, rfl, fun hm => (by obtain ⟨u, hu, _⟩ := r.mem hm; rw [hn] at hu; cases hu), upd_same, z1, yhu.mono (ztf hn) _ _ z2⟩)
  | _ :: _ :: _ => exact h.elim
end
end L4
namespace L4
open PySem PySem.Spec PyProof.Rows L2
section
variable {T : Tb} {X : Cx}
structure InK (K : PySem.W.Frag) (C : Addr) : Prop where
  cl : L2.Cls K C
  a : PySem.W.findIn K (.ref C) "__class__" = some (some (.builtin "object.__class__"))
  n : PySem.W.specialIn K (.builtin "object.__class__") "__get__" = some (some (.builtin "getset_descriptor.__get__"))
  t : PySem.W.takesIn K (.builtin "object.__class__") = some true
  m : PySem.W.mroIn K C (.type "object") = some true
def rIsO (K : PySem.W.Frag) (cv : Addr) : List V -> Hp -> VK -> Prop := fun xs H Q => ∃ a C dx fs b, xs = [.ref a, .ref cv] /\ H a = some (.ins C dx fs) /\ InK K C /\ PySem.W.kitOne K (.ref C) (.ref cv) = some b /\ Q (.bl b) H
theorem znj {cv : Addr} : yd8 X (.builtin "isinstance") (rIsO X.K cv) := by
  intro pins s st H xs us Q I r h
  obtain ⟨a, C, dx, fs, b, rfl, ea, Z, e, q⟩ := h
  obtain ⟨u, u2, rfl, ru, ru2⟩ := yhh r
  cases ru2
  exact zlc I ru (.ins ea Z.cl Z.a Z.n Z.t Z.m) e fun tk => ⟨.bl b, H, I.tok _, rfl, q⟩
def yi0 (t : Nat -> Option Bool) (x : D) : M D := fun σ => match yfp σ x with
  | some (c, _) => (match t c with | some b => .ok (.bl b) σ | none => .bad)
  | none => .bad
def IoOk (K : PySem.W.Frag) (ca : Nat -> Addr) (cv : Addr) (l : List (Nat × Bool)) : Prop := ∀ p ∈ l, InK K (ca p.1) /\ PySem.W.kitOne K (.ref (ca p.1)) (.ref cv) = some p.2
theorem yar {K : PySem.W.Frag} {ca : Nat -> Addr} {cv : Addr} : IoOk K ca cv [] := fun _ h => nomatch h
theorem zuo {K : PySem.W.Frag} {ca : Nat -> Addr} {cv : Addr} {c : Nat} {b : Bool} {l : List (Nat × Bool)} (z : InK K (ca c)) (h : PySem.W.kitOne K (.ref (ca c)) (.ref cv) = some b) (r : IoOk K ca cv l) : IoOk K ca cv ((c, b) :: l) := fun p hp => by
  rcases List.mem_cons.mp hp with rfl | hp
  · exact ⟨z, h⟩
  · exact r p hp
theorem zzp {y : Str} {cv : Addr} {l : List (Nat × Bool)} {e : Expr} {f : Ev -> M D} {p p2 pos : Pos} (hK : T.K = X.K) (he : FE T X e f) (hg : Gl X "isinstance") (hm : X.mg "isinstance" = none) (hg2 : Gl X y) (hd2 : (y == ("__debug__" : Str)) = false) (hc : X.mg y = some (.ref cv))
    (ht : IoOk X.K T.ca cv l)
    (hs : starEach [e, .Name y p2] X.env = (false, eval e X.env) :: starEach [.Name y p2] X.env := by rfl) (hpl : (backTo pos (starEach [.Name y p2] X.env)).any (·.1) = false := by rfl) :
    FE T X (.Call (.Name "isinstance" p) [e, .Name y p2] [] pos) (eUn (yi0 (yij l)) f) := by
  intro pins s st H Q I h
  refine zqd (znj (cv := cv)) hg hm boot_isinstance (zv7 he (zv7 (zwc (v := .ref cv) hg2 hc rfl hd2) ych) hs) (by decide) (by decide) hs hpl pins s st H Q I ?_
  obtain ⟨μ, ρ, σ, hE, hr, hp⟩ := h
  refine ⟨μ, ρ, σ, hE, hr, hp.bind fun x σ1 μ1 v H1 _ e1 r1 p1 q1 => ?_⟩
  unfold yi0 at q1
  cases ei : yfp σ1 x with
  | none => rw [ei] at q1; exact q1.elim
  | some cf =>
    obtain ⟨c, fs⟩ := cf
    rw [ei] at q1
    dsimp only at q1
    cases et : yij l c with
    | none => rw [et] at q1; exact q1.elim
    | some b =>
      rw [et] at q1
      obtain ⟨a, dx, vs, rfl, h1, _⟩ := zul r1 p1 ei
      obtain ⟨z1, z2⟩ := ht (c, b) (ya9 et)
      exact ⟨a, T.ca c, dx, vs, b, rfl, h1, z1, z2, yhp.here q1 r1 (by rw [Rep])⟩
theorem zvr {l : List (Nat × Bool)} {x : D} {c : Nat} {fs : List (Str × D)} {b : Bool} {σ : Sto} (h : yfp σ x = some (c, fs)) (h2 : yij l c = some b) : yi0 (yij l) x σ = .ok (.bl b) σ := by
  unfold yi0; rw [h]; dsimp only; rw [h2]
def yfu : List (Key × D) -> List (Key × D) -> Bool
  | [], [] => true
  | (k, .int i) :: r, (k', .int j) :: r' => decide (k = k') && (i == j) && yfu r r'
  | _, _ => false
theorem zir : ∀ {l : List (Key × D)}, (∀ p ∈ l, ∃ i, p.2 = .int i) -> yfu l l = true
  | [], _ => rfl
  | (k, d) :: r, h => by
    obtain ⟨i, e⟩ := h (k, d) List.mem_cons_self
    dsimp only at e
    subst e
    unfold yfu
    rw [zir fun p hp => h p (List.mem_cons_of_mem _ hp)]
    simp
def oEqK (x y : D) : M D := fun σ => match yh7 σ x with
  | some k1 => (match yh7 σ y with
    | some k2 => if yfu k1 k2 = true then .ok (.bl true) σ else .bad
    | none => .bad)
  | none => .bad
end
end L4
namespace L4
open PySem PySem.Spec PyProof.Rows L2
section
variable {T : Tb} {X : Cx}
inductive CDs (X : Cx) : List (Option Expr) -> List Expr -> List (Str × Str) -> Prop
  | nil : CDs X [] [] []
  | cons {k v : Expr} {x y : Str} {ks : List (Option Expr)} {vs : List Expr} {l : List (Str × Str)} : PE X k (tC (.str x)) -> PE X v (tC (.str y)) -> CDs X ks vs l -> CDs X (some k :: ks) (v :: vs) ((x, y) :: l)
theorem CDs.all {ks vs l} (h : CDs X ks vs l) : ks.all (·.isSome) = true /\ ks.length = vs.length /\ ks.length = l.length := by
  induction h with
  | nil => exact ⟨rfl, rfl, rfl⟩
  | cons _ _ _ ih => exact ⟨by simpa using ih.1, by simpa using ih.2.1, by simpa using ih.2.2⟩
end
end L4
namespace L4
open PySem PySem.Spec PyProof.Rows L2
def augK (o : Int -> Int -> Int) (i : Nat) (ρ : Ev) (x d : D) : M Fl := fun σ => match x, d with
  | .int a, .int b => .ok (.nx (ρ.set i (some (.int (o a b))))) σ
  | _, _ => .bad
def yjj (o : Int -> Int -> Int) (i : Nat) (f : Ev -> M D) : Ev -> M Fl := fun ρ => match ρ[i]? with
  | some (some x) => xs ρ (f ρ) (augK o i ρ x)
  | _ => fun _ => .bad
theorem zwz {o : Int -> Int -> Int} {i : Nat} {f : Ev -> M D} {ρ : Ev} {σ : Sto} {x : D} (h : ρ[i]? = some (some x)) : yjj o i f ρ σ = xsO ρ (augK o i ρ x) (f ρ σ) := by
  unfold yjj; rw [h]; exact yhi ..
@[simp] theorem augK_ii (o : Int -> Int -> Int) (i : Nat) (ρ : Ev) (a b : Int) (σ : Sto) : augK o i ρ (.int a) (.int b) σ = .ok (.nx (ρ.set i (some (.int (o a b))))) σ := nr rfl
section
variable {T : Tb} {X : Cx} {e : Expr} {f : Ev -> M D} {pos : Pos}
theorem zz6 {i : Nat} {x : Str} {pos' : Pos} {op : Operator} {o : Int -> Int -> Int} (ho : PIp X op (ipI o)) (hN : X.N.Nodup) (hi : X.N[i]? = some x) (hx : Loc X.env.scope x) (he : FE T X e f) (hf : X.fn x = true \/ X.env.scope.names.lookup x = some .local := by first | exact .inl rfl | exact .inr rfl | assumption) :
    FS T X (.AugAssign (.Name x pos') op e pos) (yjj o i f) := by
  intro pins s st H D I hw
  refine ycx hN hi hx he ho hf pins s st H D I ?_
  obtain ⟨μ, ρ, σ, hE, hr, hp⟩ := hw
  unfold yjj at hp
  cases e0 : ρ[i]? with
  | none => rw [e0] at hp; exact hp.elim
  | some q =>
    cases q with
    | none => rw [e0] at hp; exact hp.elim
    | some d =>
      rw [e0] at hp
      obtain ⟨v, h1, h2⟩ := hE.2 i d e0
      refine ⟨v, h1, μ, ρ, σ, hE, hr, hp.xs hE fun y σ1 μ1 vy H1 _ e1 r1 q1 p1 => ?_⟩
      cases d with
      | int a =>
        cases y with
        | int b =>
          rw [Rep] at h2 q1
          subst h2 q1
          exact ⟨a, b, rfl, rfl, yhp.here (g := Gl2.nx (st.set i (some (.int (o a b))))) p1 r1 ((hE.mono e1).set i (by rw [Rep]))⟩
        | _ => exact p1.elim
      | _ => exact p1.elim
end
end L4
namespace L4
open PySem PySem.Spec PySem.Calls PyProof.Rows L2
section
variable {T : Tb} {X : Cx}
end
end L4
namespace L4
open PySem PySem.Spec PyProof.Rows L2
def ybf (o : D -> List D -> M D) (m : M (List D)) (x : D) : M D := fun σ => match yh7 σ x with
  | some _ => bnd m (o x) σ
  | none => .bad
def zy9 (o : D -> List D -> M D) (f : Ev -> M D) (fs : Ev -> M (List D)) : Ev -> M D := fun ρ => bnd (f ρ) (ybf o (fs ρ))
section
variable {T : Tb} {X : Cx} {o e : Expr} {es : List Expr} {f : Ev -> M D} {fs : Ev -> M (List D)} {name : Str} {apos cpos : Pos} {id : String} {r : V -> List V -> Hp -> VK -> Prop} {g : D -> List D -> M D}
theorem zof (pa : PlainAttrs "dict") (slot : Slot "dict" name id) (hty : typeOf (.builtin id) = pure (.type "method_descriptor")) (hm : MtR X id r) (hs : yef T r g) (ho : FE T X o f) (ha : FA T X (e :: es) fs)
    (hbase : attributeBase o name X.env (eval o X.env) = eval o X.env := by rfl)
    (hfew : ((backTo cpos (starEach (e :: es) X.env)).all (fun x => !x.1) && (backToKw cpos (keywordEach [] X.env)).all (fun x => x.1.isSome)
      && decide ((e :: es).length + ([] : List Keyword).length + (if ([] : List Keyword).isEmpty then 0 else 1) < 30)) = true := by rfl)
    (hline : (apos.endLine == cpos.line) = true := by rfl) (hst : starEach (e :: es) X.env = (false, eval e X.env) :: starEach es X.env := by rfl) (hplain : (backTo cpos (starEach es X.env)).any (·.1) = false := by rfl) :
    FE T X (.Call (.Attribute o name apos) (e :: es) [] cpos) (zy9 g f fs) := by
  intro pins s st H Q I h
  refine ygm pa slot hty hm ho ha hbase hfew hline hst hplain pins s st H Q I ?_
  obtain ⟨μ, ρ, σ, he, hr, hp⟩ := h
  refine ⟨μ, ρ, σ, he, hr, hp.bind fun x σ1 μ1 v H1 _ e1 r1 p1 q1 => ?_⟩
  unfold ybf at q1
  cases el : yh7 σ1 x with
  | none => rw [el] at q1; exact q1.elim
  | some xs =>
    rw [el] at q1
    obtain ⟨a, vs, rfl, h1, h2⟩ := yc8 r1 p1 el
    refine ⟨.inr (.inr (.inl ⟨rfl, .inl ⟨vs, h1⟩⟩)), μ1, ρ, σ1, he.mono e1, r1, q1.bind fun ds σ2 μ2 ws H2 _ e2 r2 p2 q2 => ?_⟩
    exact hs _ μ2 H2 σ2 x ds (.ref a) ws Q r2 (Rep.mono e2 _ _ p1) p2 q2
end
end L4
namespace L4
open PySem PySem.Spec PyProof.Rows L2
open Classical in
section
variable {T : Tb} {X : Cx}
end
end L4
namespace L4
open PySem PySem.Spec PyProof.Rows L2
section
variable {T : Tb} {X : Cx}
end
section
variable {T : Tb} {X : Cx} {tg iter : Expr} {f : Ev -> M D}
end
section
variable {T : Tb} {X : Cx} {o e : Expr} {es : List Expr} {f : Ev -> M D} {fs : Ev -> M (List D)} {name : Str} {apos cpos : Pos} {id : String} {r : V -> List V -> Hp -> VK -> Prop} {g : D -> List D -> M D}
end
end L4
namespace L4
open PySem PySem.Spec PyProof.Rows L2
def sBad : Ev -> M Fl := fun _ _ => .bad
theorem zz7 {T : Tb} {X : Cx} {e : Stmt} : FS T X e sBad := fun pins s st H D I ⟨μ, ρ, σ, _, _, hp⟩ => hp.elim
section
variable {X : Cx} {pins : List (Addr × Obj)} {σ : St} {H : Hp} {s : Shared} {h' : Heap}
theorem zvh {H : Hp} {a b : Addr} {u : HO} (e : H b = some u) (n : H a = none) : b ≠ a := fun z => by rw [z, n] at e; cases e
theorem _root_.L2.Inv.turnL {t' : Nat} {its : List Addr} {p : Addr} {o : HO} (I : Inv X pins σ H s) (k : ∀ b u, b ∉ its -> s.heap.get? b = some u -> h'.get? b = some u) (hf : ∀ b ∈ its, yhn X pins H b) (hp : s.heap.objs.size <= p) (new : yed X.prog X.w (upd H p o) h' p o) :
    Inv X pins σ (upd H p o) { s with heap := h', toks := t' } := by
  have hn : H p = none := I.hok.fresh hp
  have nit : ∀ b u, H b = some u -> b ∉ its := fun b u e z => by rw [(hf b z).1] at e; cases e
  refine I.step (g' := s.gens) (d' := s.drawn) (ch := its) (fun b hb => ?_) (fun b o _ _ hc e _ => k b o hc e) (fun b o _ _ hc e _ => ⟨o.slots, k b o hc e⟩) (fun b u _ q n => by rw [upd_ne (Nat.ne_of_lt (Nat.lt_of_lt_of_le (Heap.lt_size q) hp))]; exact n)
    (fun b o hc e => ⟨o, k b o hc e⟩) (fun b xs q => by rw [upd_ne (zvh q hn)]; exact q) (fun b u xs q => by rw [upd_ne (zvh q hn)]; exact q) (fun b ps q => ⟨#[], by rw [upd_ne (zvh q hn), q]; simp⟩) (fun m hm => ?_) (fun b u e => ?_) I.bare
  · obtain ⟨f0, f1, f2, f3, f4, f5⟩ := hf b hb
    exact ⟨f3, f1, f4, f5⟩
  · obtain ⟨o, es, ep, ho, r⟩ := hm
    exact ⟨o, es, ep, k _ o (fun z => (hf _ z).2.1 rfl) ho, r⟩
  · by_cases hb : b = p
    · subst hb; rw [upd_same] at e; cases e; exact new
    · rw [upd_ne hb] at e
      refine (I.hok b u e).stay (fun c v hc q => k c v ?_ q) (fun c q => by rw [upd_ne (zvh q hn)]; exact q) fun c xs q => by rw [upd_ne (zvh q hn)]; exact q
      rcases hc with z | z
      · rw [z]; exact nit b u e
      · exact nit c _ z
theorem _root_.L2.Inv.turnN {t' : Nat} {its : List Addr} (I : Inv X pins σ H s) (k : ∀ b u, b ∉ its -> s.heap.get? b = some u -> h'.get? b = some u) (hf : ∀ b ∈ its, yhn X pins H b) : Inv X pins σ H { s with heap := h', toks := t' } := by
  have nit : ∀ b u, H b = some u -> b ∉ its := fun b u e z => by rw [(hf b z).1] at e; cases e
  refine I.step (g' := s.gens) (d' := s.drawn) (ch := its) (fun b hb => ?_) (fun b o _ _ hc e _ => k b o hc e) (fun b o _ _ hc e _ => ⟨o.slots, k b o hc e⟩) (fun b u _ q n => n)
    (fun b o hc e => ⟨o, k b o hc e⟩) (fun b xs q => q) (fun b u xs q => q) (fun b ps q => ⟨#[], by rw [q]; simp⟩) (fun m hm => ?_) (fun b u e => ?_) I.bare
  · obtain ⟨f0, f1, f2, f3, f4, f5⟩ := hf b hb
    exact ⟨f3, f1, f4, f5⟩
  · obtain ⟨o, es, ep, ho, r⟩ := hm
    exact ⟨o, es, ep, k _ o (fun z => (hf _ z).2.1 rfl) ho, r⟩
  · refine (I.hok b u e).stay (fun c v hc q => k c v ?_ q) (fun _ q => q) fun _ _ q => q
    rcases hc with z | z
    · rw [z]; exact nit b u e
    · exact nit c _ z
end
theorem zy3 {h : Heap} {a b : Addr} {o o' : Obj} {n n' : String} (e : h.get? a = some o) (e' : h.get? b = some o') (c : o.cls = .type n) (c' : o'.cls = .type n') (hn : n ≠ n') : a ≠ b := fun z => by
  subst z; rw [e] at e'; cases e'; rw [c] at c'; injection c' with q; exact hn q
def Ite (K : PySem.W.Frag) (l : Addr) : It :=
  ⟨fun i H => ∃ xs x, SqL K H l xs /\ xs[i]? = some x, fun i H v H' => ∃ p x, H p = none /\ v = .ref p /\ (∀ xs, SqL K H l xs -> xs[i]? = some x) /\ H' = upd H p (.tup [.int i, x]), fun i H => ∃ xs, SqL K H l xs /\ i = xs.length⟩
theorem zm5 {P : Program} {w : World} {K : PySem.W.Frag} {elts : List Expr} {kk : Nat} {pos : Pos} (l e it : Addr) : Turn P w K (.Tuple elts kk pos) (Ite K l) [e, it] e (fun i h => (∃ old, IsEnum h e it i old) /\ h.IsListIter it l i) where
  mem := by simp
  obj := fun i h st b hb => by
    obtain ⟨⟨old, s1⟩, o, s2, c, d⟩ := st
    simp only [List.mem_cons, List.not_mem_nil, or_false] at hb
    rcases hb with rfl | rfl
    · exact ⟨_, s1, fun v z => by cases z⟩
    · exact ⟨o, s2, fun v z => by rw [d] at z; cases z⟩
  keep := fun i h h' st k => by
    obtain ⟨⟨old, s1⟩, s2⟩ := st
    exact ⟨⟨old, k e (by simp) _ s1⟩, s2.at fun o q => k it (by simp) o q⟩
  item := by
    intro X hP hw hK hc i pins s σ H E I hf st hg
    subst hP hw hK
    obtain ⟨xs, x, hq, hx⟩ := hg
    obtain ⟨its, rv, p, hz⟩ := I.list hq
    obtain ⟨u, hu, ru⟩ := rv.get hx
    obtain ⟨⟨old, s1⟩, s2⟩ := st
    obtain ⟨oa, ea, ca, _⟩ := id p.isList
    obtain ⟨ob, eb, cb, _⟩ := id s2
    have nle : l ≠ e := zy3 ea s1 ca rfl (by decide)
    have nli : l ≠ it := zy3 ea eb ca cb (by decide)
    have nei : e ≠ it := zy3 s1 eb rfl cb (by decide)
    have W := WalksT.enumerate (prog := X.prog) (w := X.w) (A := X.A) (I.ok.hd hc) e it l nei nle nli its.toArray
    have hi : i < its.toArray.size := by
      have := (List.getElem?_eq_some_iff.mp hu).1
      simpa using this
    refine W.item i s _ E hi ⟨⟨old, s1⟩, s2, p.isList⟩ fun T vals h' tk hPt hT hTup hMid hk => ?_
    obtain ⟨t, y, hy, rfl⟩ := hPt
    have ey : y = u := by
      have : its.toArray[i]? = some u := by simpa using hu
      rw [this] at hy; cases hy; rfl
    subst ey
    refine ⟨.ref T, rfl, W.go elts kk pos i T { s with heap := h', toks := tk } _ E hMid fun h2 hS hk2 => ?_⟩
    have hap := W.apart i T h' hMid
    have hTup2 : h2.IsTuple T #[.int i t, y] := by
      obtain ⟨o, e1, c1⟩ := hTup
      exact ⟨o, hk2 T o hap e1, c1⟩
    have hn : H T = none := I.hok.fresh hT
    refine ⟨.ref T, upd H T (.tup [.int i, x]), I.turnL (o := .tup [.int i, x]) (fun b o hb q => hk2 b o hb (hk b o hb q)) hf hT ?_, rfl, ⟨T, x, hn, rfl, fun ys hy => by rw [I.list_inj hy hq]; exact hx, rfl⟩, ⟨hS.1, hS.2.1⟩, fun b hb => ?_⟩
    · exact ⟨(show (2 : Nat) <= sizeLine by decide), [.int i t, y], .cons ⟨t, rfl⟩ (.cons ru .nil), hTup2⟩
    · rw [upd_ne (fun z => hap (by rw [<- z]; exact hb))]
      exact (hf b hb).1
  done := by
    intro X hP hw hK hc i pins s σ H E I hf st hg
    subst hP hw hK
    obtain ⟨xs, hq, hx⟩ := hg
    obtain ⟨its, rv, p, hz⟩ := I.list hq
    obtain ⟨⟨old, s1⟩, s2⟩ := st
    have hl := rv.length
    exact wpAny_pyNext_enum_end (I.ok.hd hc) s1 s2 p.isList (by simp; omega) fun h' eb => ⟨rfl, I.turnN (t' := s.toks) (fun b o hb q => eb b o (fun z => hb (by simp [z])) q) hf⟩
  self := fun A i s Q E st h => by
    obtain ⟨⟨old, s1⟩, s2⟩ := st
    exact wpAny_pyIter_enum s1 h
abbrev NX := Nat -> Sto -> Option (Option D)
def SrcN (T : Tb) (μ0 : List Addr) (H0 : Hp) (nx : NX) (J : It) : Prop := ∀ μ H σ i, Ext μ0 H0 μ H -> Rel T μ H σ -> match nx i σ with
  | none => True
  | some none => J.stop i H
  | some (some d) => J.go i H /\ ∀ x H', J.yld i H x H' -> Ext μ H μ H' /\ Rel T μ H' σ /\ Rep T μ H' d x
def tIN (T : Tb) (X : Cx) (f : Ev -> M NX) : TI := fun st H R => ∃ μ ρ σ, yhl T μ H ρ st /\ Rel T μ H σ /\ yhp T (XE X st) (SrcN T) μ H (f ρ σ) R
abbrev FIN (T : Tb) (X : Cx) (tg iter : Expr) (f : Ev -> M NX) : Prop := PI X tg iter (tIN T X f)
def yfx (nx : NX) (tg : D -> Ev -> Option Ev) (body : Ev -> M Fl) : Nat -> Nat -> Ev -> M Fl
  | 0, _, _ => bad
  | k + 1, i, ρ => fun σ => match nx i σ with
    | none => .bad
    | some none => .ok (.nx ρ) σ
    | some (some d) => match tg d ρ with
      | none => .bad
      | some ρ1 => bnd (body ρ1) (yfv (yfx nx tg body k (i + 1))) σ
def yfh (tg : D -> Ev -> Option Ev) (body : Ev -> M Fl) (ρ : Ev) (nx : NX) : M Fl := yfx nx tg body 1001 0 ρ
def ygv (src : Ev -> M NX) (tg : D -> Ev -> Option Ev) (body : Ev -> M Fl) : Ev -> M Fl := fun ρ => xs ρ (src ρ) (yfh tg body ρ)
section
variable {T : Tb} {X : Cx} {tgt iter : Expr} {body : List Stmt} {src : Ev -> M NX} {t : D -> Ev -> Option Ev} {g : Ev -> M Fl} {pos : Pos}
theorem zt0 (hp : PassesOwn (model X.prog X.w) X.A X.env X.xe) (hc : X.calm = true) (hi : FIN T X tgt iter src) (hg : FG T X tgt t) (hb : FSs T X body g)
    (hs : ∀ x, foldedSetIterable iter X.env x = pure x := by intro _; rfl) : FS T X (.For tgt iter body [] pos) (ygv src t g) := by
  intro pins s st H D I hq
  refine ycz hp hc hi hg hb hs pins s st H D I ?_
  obtain ⟨μ, ρ, σ, hE, hr, hp⟩ := hq
  refine ⟨μ, ρ, σ, hE, hr, hp.xs hE fun nx σ1 μ1 J H1 _ e1 r1 q1 p1 => ?_⟩
  have p1' : yhp T EN (RFl T) μ1 H1 (yfx nx t g 1001 0 ρ σ1) (yhm X D) := p1
  refine ⟨fun i m st2 H2 => ∃ μ ρ σ, Ext μ1 H1 μ H2 /\ yhl T μ H2 ρ st2 /\ Rel T μ H2 σ /\ yhp T EN (RFl T) μ H2 (yfx nx t g m i ρ σ) (yhm X D), ⟨1001, μ1, ρ, σ1, Ext.refl _ _, hE.mono e1, r1, p1'⟩, ?_⟩
  rintro i m st2 H2 ⟨μ2, ρ2, σ2, ex, hE2, r2, p2⟩
  cases m with
  | zero => exact p2.elim
  | succ m =>
    unfold yfx at p2
    have so := q1 μ2 H2 σ2 i ex r2
    cases en : nx i σ2 with
    | none => simp only [en] at p2; exact p2.elim
    | some o =>
      cases o with
      | none =>
        simp only [en] at p2 so
        exact .inl ⟨so, yhp.here (g := Gl2.nx st2) p2 r2 hE2⟩
      | some d =>
        simp only [en] at p2 so
        obtain ⟨hgo, hy⟩ := so
        refine .inr ⟨hgo, fun st3 H3 => ∃ μ ρ σ, Ext μ1 H1 μ H3 /\ yhl T μ H3 ρ st3 /\ Rel T μ H3 σ /\ yhp T EN (RFl T) μ H3 (yfx nx t g m (i + 1) ρ σ) (yhm X D), fun st3 H3 h => ⟨m, Nat.lt_succ_self _, h⟩, fun x H3 y => ?_⟩
        obtain ⟨ex3, r3, hx⟩ := hy x H3 y
        cases ht : t d ρ2 with
        | none => simp only [ht] at p2; exact p2.elim
        | some ρ3 =>
          simp only [ht] at p2
          exact ⟨μ2, σ2, ρ2, d, ρ3, hE2.mono ex3, r3, hx, ht, fun st3 hE3 => ⟨μ2, ρ3, σ2, hE3, r3, (yhp.mono ex3 p2).bind fun fl σ4 μ4 gl H4 _ e4 r4 q4 p4 => zro r4 q4 p4 fun ρ5 st5 hE5 p5 => ⟨μ4, ρ5, σ4, (ex.trans ex3).trans e4, hE5, r4, p5⟩⟩⟩
end
def nxE (a : D) : NX := fun i σ => match yio σ a with
  | some xs => (match xs[i]? with
    | some x => some (some (.tup [.int (i : Int), x]))
    | none => if i = xs.length then some none else none)
  | none => none
def ye7 (d : D) : M NX := fun σ => match yio σ d with
  | some _ => .ok (nxE d) σ
  | none => .bad
def srcE (f : Ev -> M D) : Ev -> M NX := fun ρ => bnd (f ρ) ye7
section
variable {T : Tb} {X : Cx} {elts : List Expr} {kk : Nat} {p0 p pos : Pos} {f g : Ev -> M D}
theorem zeu : bootBuiltins "enumerate" = some (.type "enumerate") := by decide +kernel
def iEnum (K : PySem.W.Frag) (ta : TA) : TI := fun σ H R => ta σ H fun vs H1 => ∃ l xs, vs = [.ref l] /\ SqL K H1 l xs /\ R (Ite K l) H1
theorem zwf {a : Expr} {ta : TA} (hg : Gl X "enumerate") (hm : X.mg "enumerate" = none) (ha : PA X [a] ta) (hs : starEach [a] X.env = [(false, eval a X.env)] := by rfl) : PI X (.Tuple elts kk p0) (.Call (.Name "enumerate" p) [a] [] pos) (iEnum X.K ta) := by
  intro pins s σ H R I h
  refine Call_ (ya5 I hg hm zeu (PyProof.Rows.callWith_type1 (thn (ha pos pins s σ H _ I h) fun us s1 ⟨vs, H1, I1, r1, q1⟩ => ?_) hs rfl))
  obtain ⟨l, xs, e, hq, q⟩ := q1
  subst e
  cases r1 with
  | cons r rr =>
    cases rr
    cases r
    obtain ⟨its, rv, pl, hz⟩ := I1.list hq
    refine call_enumerate_list pl.isList fun h' a1 a2 a3 a4 => wpAny_pyIter_enum a1 ?_
    refine ⟨s1.heap.objs.size + 1, [s1.heap.objs.size + 1, s1.heap.objs.size], _, _, H1, rfl, I1.kept (t' := s1.toks) a4, zm5 l _ _, ⟨⟨_, a1⟩, a2⟩, fun b hb => ?_, q⟩
    have hb' : s1.heap.objs.size <= b := by simp at hb; rcases hb with rfl | rfl <;> omega
    exact I1.fpOk hb' (I1.hok.fresh hb')
theorem ztq {e : Expr} (hg : Gl X "enumerate") (hm : X.mg "enumerate" = none) (h : FE T X e f) (hs : starEach [e] X.env = [(false, eval e X.env)] := by rfl) : FIN T X (.Tuple elts kk p0) (.Call (.Name "enumerate" p) [e] [] pos) (srcE f) := by
  intro pins s st H R I hw
  refine zwf hg hm (zv7 h ych hs) hs pins s st H R I ?_
  obtain ⟨μ, ρ, σ, hE, hr, hp⟩ := hw
  refine ⟨μ, ρ, σ, hE, hr, hp.bind fun d σ1 μ1 v H1 _ e1 r1 q1 p1 => ?_⟩
  unfold ye7 at p1
  cases el : yio σ1 d with
  | none => rw [el] at p1; exact p1.elim
  | some ds =>
    rw [el] at p1
    obtain ⟨l, vs, rfl, h1, h2⟩ := r1.ls q1 el
    refine ⟨l, vs, rfl, SqL.of h1, yhp.here (R := SrcN T) p1 r1 fun μ2 H2 σ2 i ex r2 => ?_⟩
    unfold nxE
    cases el2 : yio σ2 d with
    | none => trivial
    | some xs =>
      obtain ⟨l', ws, e', h3, h4⟩ := r2.ls (Rep.mono ex _ _ q1) el2
      cases e'
      have hq2 : SqL X.K H2 l ws := SqL.of h3
      dsimp only
      cases ei : xs[i]? with
      | none =>
        dsimp only
        by_cases hi : i = xs.length
        · rw [if_pos hi]; exact ⟨ws, hq2, by rw [hi]; exact h4.length⟩
        · rw [if_neg hi]; trivial
      | some d' =>
        obtain ⟨x, hx, rx⟩ := h4.get ei
        refine ⟨⟨ws, x, hq2, hx⟩, fun z H' y => ?_⟩
        obtain ⟨q, x', hn', rfl, hall, rfl⟩ := y
        have hx' := hall ws hq2
        rw [hx] at hx'
        cases hx'
        refine ⟨ztf hn', r2.fresh hn', ?_⟩
        rw [Rep]
        exact ⟨q, _, rfl, upd_same, yhu.cons (by rw [Rep]) (yhu.cons (Rep.mono (ztf hn') _ _ rx) yhu.nil)⟩
end
end L4
namespace L4
open PySem PySem.Spec PyProof.Rows L2
open PySem.Builtin.Str (occurrences partsBetween subAt)
end L4
namespace L4
open PySem PySem.Spec PyProof.Rows L2
section
variable {T : Tb} {X : Cx} {a b c : Expr} {fa fb fc : Ev -> M D} {pos : Pos}
end
end L4
namespace L4
open PySem PySem.Spec PyProof.Rows L2
def yen (ρ : Ev) (c : Nat) (f : Str) (x : D) (a : Int) (y : D) : M Fl := fun σ => match y with
  | .int b => (match x with
    | .ref n => (match σ[n]? with
      | some (.ins c' fs) => if (c' == c && decide (fs.length < 1000)) = true then .ok (.nx ρ) (σ.set n (.ins c (yjc f (.int (a + b)) fs))) else .bad
      | _ => .bad)
    | _ => .bad)
  | _ => .bad
def yem (ρ : Ev) (cs : List Nat) (f : Str) (fv : Ev -> M D) (x : D) : M Fl := fun σ => match yfp σ x with
  | some (c, fs) => if cs.contains c = true then (match fs.lookup f with
    | some (.int a) => xs ρ (fv ρ) (yen ρ c f x a) σ
    | _ => .bad) else .bad
  | none => .bad
def ygu (cs : List Nat) (f : Str) (fv fo : Ev -> M D) : Ev -> M Fl := fun ρ => xs ρ (fo ρ) (yem ρ cs f fv)
section
variable {T : Tb} {X : Cx}
theorem zk1 {o value : Expr} {f : Str} {fv fo : Ev -> M D} {pos tpos : Pos} {cs : List Nat} (hK : T.K = X.K) (hc : yea T cs f) (ho : FE T X o fo) (hv : FE T X value fv) : FS T X (.AugAssign (.Attribute o f tpos) .Add value pos) (ygu cs f fv fo) := by
  intro pins s st H D I hq
  refine zmd ho hv yao pins s st H D I ?_
  obtain ⟨μ, ρ, σ, hE, hr, hp⟩ := hq
  refine ⟨μ, ρ, σ, hE, hr, hp.xs hE fun x σ1 μ1 vo H1 _ e1 r1 q1 p1 => ?_⟩
  unfold yem at p1
  cases ei : yfp σ1 x with
  | none => rw [ei] at p1; exact p1.elim
  | some p =>
    obtain ⟨c, fs⟩ := p
    rw [ei] at p1; dsimp only at p1
    by_cases hcc : cs.contains c = true
    · rw [if_pos hcc] at p1
      obtain ⟨a, dx, vs, rfl, h1, h2⟩ := zul r1 q1 ei
      cases el : fs.lookup f with
      | none => rw [el] at p1; exact p1.elim
      | some y =>
        rw [el] at p1
        cases y with
        | int i =>
          obtain ⟨w, h3, h4⟩ := (zpk h2).1 _ el
          obtain ⟨k1, k2⟩ := hc c hcc
          rw [hK] at k1 k2
          refine ⟨a, _, dx, vs, w, rfl, h1, k1, k2, h3, μ1, ρ, σ1, hE.mono e1, r1, p1.xs (hE.mono e1) fun z σ2 μ2 vz H2 _ e2 r2 q2 p2 => ?_⟩
          unfold yen at p2
          cases z with
          | int j =>
            refine ⟨i, j, yap h4, yap q2, ?_⟩
            have q1' := Rep.mono e2 _ _ q1
            cases x with
            | ref n =>
              dsimp only at p2
              cases el2 : σ2[n]? with
              | none => rw [el2] at p2; exact p2.elim
              | some ob =>
                rw [el2] at p2
                cases ob with
                | lst _ => exact p2.elim
                | dic _ => exact p2.elim
                | ins c' fs' =>
                  dsimp only at p2
                  by_cases hc2 : (c' == c && decide (fs'.length < 1000)) = true
                  · rw [if_pos hc2] at p2
                    rw [Bool.and_eq_true, decide_eq_true_eq, beq_iff_eq] at hc2
                    obtain ⟨hcc', hl⟩ := hc2
                    subst hcc'
                    obtain ⟨a', ea, hn, dx', vs', h1', h2'⟩ := r2.at q1' el2
                    cases ea
                    have ex : Ext μ2 H2 μ2 (upd H2 a (.ins (T.ca c') dx' (yjd f (.int (i + j)) vs'))) := zkv (List.mem_of_getElem? hn) h1' (fun _ z => by cases z) (fun _ _ z => by cases z)
                    have wr := r2.write (o := .ins (T.ca c') dx' (yjd f (.int (i + j)) vs')) (ob := .ins c' (yjc f (.int (i + j)) fs')) hn ⟨dx', _, upd_same, zwr (by rw [Rep]) (yhs.mono ex h2')⟩
                    exact ⟨dx', vs', h1', by rw [<- h2'.length]; exact hl, p2 _ (.nx st) _ wr.1 wr.2 ((hE.mono e1).mono e2 |>.mono wr.1)⟩
                  · rw [if_neg hc2] at p2; exact p2.elim
            | _ => exact p2.elim
          | _ => exact p2.elim
        | _ => exact p1.elim
    · rw [if_neg hcc] at p1; exact p1.elim
def zvo (y x : D) : M D := fun σ => match yim y with
  | some k => (match yh7 σ x with
    | some kvs => .ok (.bl (!(yfe kvs k).isSome)) σ
    | none => .bad)
  | none => .bad
def zwu : R2 := fun y x H Q => ∃ a o, x = .ref a /\ yhj H a y o /\ Q (.bl (!o.isSome)) H
theorem zl8 (hu : X.A.units + 9 < cLine) : OpR X (compareOp .NotIn) zwu := by
  intro pins s st H y x iv u Q I ry rx h
  obtain ⟨a, o, rfl, g, q⟩ := h
  obtain rfl : u = Value.ref a := rx
  exact zsw (by omega) I g ry fun s3 I3 => ⟨.bl (!o.isSome), H, I3, rfl, q⟩
theorem zjx : yeg T zwu zvo := by
  intro E μ H σ y x u v Q r q p h
  unfold zvo at h
  cases ek : yim y with
  | none => rw [ek] at h; exact h.elim
  | some k =>
    rw [ek] at h
    dsimp only at h
    cases ed : yh7 σ x with
    | none => rw [ed] at h; exact h.elim
    | some kvs =>
      rw [ed] at h
      obtain ⟨a, vs, rfl, h1, h2⟩ := yc8 r p ed
      obtain rfl := zus q ek
      refine ⟨a, yj2 vs k, rfl, yhj.k h1, yhp.here h r ?_⟩
      rw [Rep]
      rcases zol h2 k with ⟨z1, z2⟩ | ⟨d, w, z1, z2, z3⟩
      · rw [z1, z2]; rfl
      · rw [z1, z2]; rfl
def OkB (T : Tb) (P : Program) (w : World) (mg : Str -> Option Value) (base : Heap) (k : Nat) (f : Addr) (ps : List Str) (dv : List Value) (fn : List D -> M D) : Prop :=
  ∃ fd, yd7 T.K fd ps [] /\ yd7 T.K fd ps dv /\ FnOk P w T.K mg base (CXE P w) k f fd ps (spF T ps.length fn)
structure HasMD (K : PySem.W.Frag) (C : Addr) (x qual : Str) (st : Stmt) (ps : List Str) (dv : List Value) (f : Addr) : Prop where
  ex : ∃ fd, (∃ (oc : Value) (od : Option Addr) (dV kV doc pm : Value) (an : Option Addr) (cdv ct : Value) (osl : Array (Option Value)),
    fd = PySem.W.fnOf x qual (zs1 st) (zs2 st) (znx st) dV kV doc pm an cdv ct /\ K.lookup f = some ⟨oc, od, .func fd, osl⟩ /\ PySem.W.codeIn K cdv qual = true) /\ yd7 K fd ps [] /\ yd7 K fd ps dv
end
section
variable {P : Program} {w : World} {K : PySem.W.Frag} {mg : Str -> Option Value} {base : Heap} {ca : Nat -> Addr}
theorem ybz {k : Nat} {C f : Addr} {x qual : Str} {st : Stmt} {ps N : List Str} {dv : List Value} {g : Ev -> M Fl} (h : HasMD K C x qual st ps dv f) (S : FnScope N ps (znx st))
    (hb : ∀ (cdv : Value) (A : Around) (outer : List Env) (s : Shared) (H : Hp) (E : XK), Room k (A.deeper (envOfC qual (znx st) s.heap.objs.size f cdv)) -> FSs ⟨K, ca⟩ (yh6 (CXE P w) P w K mg base N qual (znx st) f cdv A outer s H E) (zs2 st) g) :
    OkB ⟨K, ca⟩ P w mg base (k + 1) f ps dv (run N.length g) := by
  obtain ⟨fd, ⟨oc, od, dV, kV, doc, pm, an, cdv, ct, osl, rfl, lk, hcd⟩, b0, b1⟩ := h.ex
  exact ⟨_, b0, b1, fok lk hcd S (hb cdv)⟩
theorem OkB.hide {T : Tb} {k : Nat} {f : Addr} {ps : List Str} {dv : List Value} {fn : List D -> M D} (h : OkB T P w mg base k f ps dv fn) : OkB T P w mg base k f ps dv (L4.hide fn) := by rw [zud]; exact h
theorem OkB.frz {T : Tb} {k : Nat} {f : Addr} {ps : List Str} {dv : List Value} {fn : List D -> M D} (h : OkB T P w mg base k f ps dv fn) : OkB T P w mg base k f ps dv (fun ds => L4.frz (fn ds)) := by
  obtain ⟨fd, h1, h2, h3⟩ := h
  exact ⟨fd, h1, h2, ztv h3⟩
theorem mkMD {C f t : Addr} {x qual : Str} {st : Stmt} {ps : List Str} {dv : List Value} {oc toc : Value} {od an tod : Option Addr} {osl tsl : Array (Option Value)} {kV doc pm cdv ct : Value} {tn : Nat}
    (hb : ∀ (t : Addr) (kV doc pm : Value) (an : Option Addr) (cdv ct : Value) (s : Shared) (o : Obj) (n : Nat) (us : List Value), s.heap.get? t = some o -> o.data = .seq dv.toArray n -> ((us ++ []).length = ps.length -> BindsTo s (PySem.W.fnOf x qual (zs1 st) (zs2 st) (znx st) (.ref t) kV doc pm an cdv ct) ⟨us, []⟩ (ps.zip (us ++ []))) /\
      ((us ++ dv).length = ps.length -> BindsTo s (PySem.W.fnOf x qual (zs1 st) (zs2 st) (znx st) (.ref t) kV doc pm an cdv ct) ⟨us, []⟩ (ps.zip (us ++ dv))))
    (l : K.lookup f = some ⟨oc, od, .func (PySem.W.fnOf x qual (zs1 st) (zs2 st) (znx st) (.ref t) kV doc pm an cdv ct), osl⟩)
    (c : PySem.W.codeIn K cdv qual = true) (d : K.lookup t = some ⟨toc, tod, .seq dv.toArray tn, tsl⟩) : HasMD K C x qual st ps dv f :=
  ⟨⟨_, ⟨oc, od, _, kV, doc, pm, an, cdv, ct, osl, rfl, l, c⟩, fun s us KX hl => (hb t kV doc pm an cdv ct s _ tn us (KX _ _ d) rfl).1 hl, fun s us KX hl => (hb t kV doc pm an cdv ct s _ tn us (KX _ _ d) rfl).2 hl⟩⟩
end
section
variable {T : Tb} {X : Cx}
theorem ztn {pl : Sem Bool} {k c : Nat} {fn : List D -> M D} {ps : List Str} {dv : List Value} {m : Str} {o e : Expr} {es : List Expr} {f : Ev -> M D} {fs : Ev -> M (List D)} {pos apos : Pos} {fa : Addr} (hK : T.K = X.K) (he : FE T X o f) (hC : Cls T.K (T.ca c)) (hM : Meth T.K (T.ca c) m fa)
    (h : OkB T X.prog X.w X.mg X.base k fa ps dv fn) (hr : Room k X.A) (ha : FA T X (e :: es) fs)
    (hst : starEach (e :: es) X.env = (false, eval e X.env) :: starEach es X.env := by rfl) (hpl : (backTo pos (starEach es X.env)).any (·.1) = false := by rfl)
    (ht : eval (.Call (.Attribute o m apos) (e :: es) [] pos) X.env = (do
      let ov <- eval o X.env
      standAt apos.atName
      let (f, first) <- holding [ov] (getMethod ov m pl)
      callWith pos f first (backTo pos (starEach (e :: es) X.env)) (backToKw pos (keywordEach [] X.env))) := by rfl) :
    FE T X (.Call (.Attribute o m apos) (e :: es) [] pos) (yid [(c, fn)] ps.length m f fs) := by
  intro pins s st H Q I hq
  obtain ⟨μ, ρ, σ, hE, hr', hp⟩ := hq
  have hE' := hE
  refine PySem.W.methodCall_KW (pl := pl) (thn (he pins s st H (fun x H1 => ∃ a dx vs, x = .ref a /\ H1 a = some (.ins (T.ca c) dx vs) /\ vs.lookup m = none /\ tL T X fs st H1 fun us H2 => spF T ps.length fn (x :: (us ++ [])) H2 Q (XE X st)) I ⟨μ, ρ, σ, hE, hr', hp.bind fun d σ1 μ1 v H1 _ e1 r1 q1 p1 => ?_⟩) fun u s1 ⟨x, H1, I1, rx, a, dx, vs, ex, ea, en, q⟩ => ?_) ht
  · unfold yir at p1
    cases ei : yfp σ1 d with
    | none => rw [ei] at p1; exact p1.elim
    | some z =>
      obtain ⟨c', gs⟩ := z
      rw [ei] at p1; dsimp only at p1
      by_cases hcc : c = c'
      · subst hcc
        have el : lkM [(c, fn)] c = some fn := by unfold lkM; rw [if_pos (beq_self_eq_true c)]
        cases en : gs.lookup m with
        | some y => rw [el, en] at p1; exact p1.elim
        | none =>
          rw [el, en] at p1; dsimp only at p1
          obtain ⟨a, dx, vs, rfl, h1, h2⟩ := zul r1 q1 ei
          refine ⟨a, dx, vs, rfl, h1, (zpk h2).2 en, μ1, ρ, σ1, hE'.mono e1, r1, p1.bind fun ds σ2 μ2 us H2 _ e2 r2 q2 p2 => ?_⟩
          unfold yf3 at p2
          by_cases hl : ds.length + 1 = ps.length
          · rw [if_pos hl] at p2
            exact ⟨μ2, σ2, d :: ds, yhu.cons (Rep.mono e2 _ _ q1) (by rw [List.append_nil]; exact q2), by rw [List.length_cons]; exact hl, r2, p2⟩
          · rw [if_neg hl] at p2; exact p2.elim
      · have el : lkM [(c, fn)] c' = none := by unfold lkM; rw [if_neg (by simpa using hcc)]; rfl
        rw [el] at p1; exact p1.elim
  · subst ex
    obtain rfl : u = Value.ref a := rx
    obtain ⟨fd, hb, _, hF⟩ := h
    rw [hK] at hC hM hF hb
    refine zil I1 ea hC hM en ?_
    refine PySem.W.callWith_K (first := [.ref a]) (h₀ := X.base) I.ok.mod.kin hM.kp (thn (ha pos pins s1 st H1 _ I1 q) fun us s2 ⟨vs, H2, I2, r, q2⟩ => ⟨I2.kIn, ?_⟩) hst hpl
    exact zwy (us := .ref a :: us) (vs := .ref a :: vs) hF hr hb .nil I2 (.cons rfl r) q2
end
end L4
namespace L4
open PySem PySem.Spec PyProof.Rows L2
def ygr : V -> List V -> Hp -> VK -> Prop := fun x vs H Q => ∃ a kvs k d, x = .ref a /\ vs = [kV k, d] /\ H a = some (.dK kvs) /\ Q ((yj2 kvs k).getD d) H
def ygb (x : D) (xs : List D) : M D := fun σ => match xs with
  | [y, d] => (match yim y with
    | some k => (match yh7 σ x with
      | some kvs => .ok ((yfe kvs k).getD d) σ
      | none => .bad)
    | none => .bad)
  | _ => .bad
section
variable {T : Tb} {X : Cx}
theorem zvd : MtR X "dict.get" ygr := by
  intro pins s st H x vs v us Q I rx rv h
  obtain ⟨a, kvs, k, d, rfl, rfl, hH, q⟩ := h
  cases rx
  obtain ⟨u, r, rfl, ru, rr⟩ := rv.two
  obtain ⟨z, hd, ws, rel, dd⟩ := yew I.hok hH
  refine call_meetsIn PySem.F.slot_dict_get dd.typeIs PySem.F.entry_dict_get (PySem.F.args_dict_get_3 _ _ _) (meets_dict_get_default (zu8 X.prog X.w) a (yfq ru) hd r) ⟨_, dd.mapOf, ?_⟩
  exact ⟨_, H, I.tok _, (rel.val k).getD rr, q⟩
theorem zrc : yef T ygr ygb := by
  intro E μ H σ x xs v vs Q r p q h
  match xs with
  | [] => exact h.elim
  | [_] => exact h.elim
  | [y, d] =>
    rw [yhu] at q
    obtain ⟨w, z, rfl, q1, q2⟩ := q
    rw [yhu] at q2
    obtain ⟨w2, z2, rfl, q3, q4⟩ := q2
    rw [yhu] at q4; subst q4
    unfold ygb at h
    cases ek : yim y with
    | none => simp only [ek] at h; exact h.elim
    | some k =>
      simp only [ek] at h
      cases el : yh7 σ x with
      | none => simp only [el] at h; exact h.elim
      | some kvs =>
        simp only [el] at h
        obtain ⟨a, us, rfl, g1, g2⟩ := yc8 r p el
        obtain rfl := zus q1 ek
        refine ⟨a, us, k, w2, rfl, rfl, g1, ?_⟩
        rcases zol g2 k with ⟨z1, z2⟩ | ⟨d', v', z1, z2, z3⟩
        · rw [z1] at h
          rw [z2]
          exact yhp.here h r q3
        · rw [z1] at h
          rw [z2]
          exact yhp.here h r z3
  | _ :: _ :: _ :: _ => exact h.elim
end
def zyp (ix : List Nat) (ρ : Ev) : Ev := none :: none :: ix.map fun i => (ρ[i]?).getD none
def zyq (ix : List Nat) (st : St) : St := none :: none :: ix.map fun i => (st[i]?).getD none
def yib (src : Ev -> M Src) (ix : List Nat) (tg : D -> Ev -> Option Ev) (fi : Ev -> M Bool) (fe : Ev -> M D) : Ev -> M D := fun ρ => bnd (src ρ) (lcK tg fi fe (zyp ix ρ))
theorem znf {T : Tb} {μ : List Addr} {H : Hp} {ρ : Ev} {st : St} (ix : List Nat) (h : yhl T μ H ρ st) : yhl T μ H (zyp ix ρ) (zyq ix st) := by
  have q := zsg ix h
  refine ⟨by simp [zyp, zyq], fun i d e => ?_⟩
  cases i with
  | zero => simp [zyp] at e
  | succ j => exact q.2 j d e
section
variable {X : Cx} {pins : List (Addr × Obj)} {st : St} {H : Hp} {s : Shared} {x z0 : Str} {M' : List Str} {ix : List Nat} {scope : Scope} {fp : List Addr}
theorem zh3 (I : Inv X pins st H s) (L : LcOk X x M' ix scope) (hfp : ∀ b ∈ fp, yhn X pins H b /\ b < s.heap.objs.size) {h' : Heap} {t' : Nat} {m : Str -> Option Value} (hns : h'.Ns s.heap.objs.size m)
    (hk : ∀ b o, s.heap.get? b = some o -> h'.get? b = some o) :
    Inv (blk X (x :: z0 :: M') scope (yh3 X.env scope.names []) s.heap.objs.size s H fp) [] (zyq ix st) H { s with heap := h', toks := t' } := by
  have sub : ∀ n c, (yh3 X.env scope.names []).lookup n = some c -> X.env.cells.lookup n = some c := fun n c e => zy2 X.env scope.names [] n c (fun _ _ q => by simp at q) e
  have cellLt : ∀ n c, X.env.cells.lookup n = some c -> c < s.heap.objs.size := fun n c e => by obtain ⟨v, z⟩ := I.cell n c e; exact z.lt
  have fresh : H s.heap.objs.size = none := I.hok.fresh (Nat.le_refl _)
  refine ⟨⟨I.ok.mod, L.kind, I.ok.glob, I.ok.blt, Nat.le_refl _, fun a b c h1 h2 => I.ok.inj a b c (sub a c h1) (sub b c h2), fun a ha => ?_, fun a c h => (by cases h), I.ok.hd, I.ok.frames, .inl rfl, fun b hb => ⟨Nat.ne_of_lt (hfp b hb).2, fun a c e => ?_⟩, fun b o e => I.bs b o e, Nat.le_trans I.ok.bsz I.sz, fun b o e hb => ?_, fun b hb z => ?_, I.stack, I.stkFree⟩,
    rfl, I.bare, Un.kept hk, ⟨m, hns, fun i y v e1 e2 e3 => ?_⟩, fun a c e => ?_, fresh, fun a c e => I.freeC a c (sub a c e), fun p hp => absurd (show p ∈ ([] : List (Addr × Obj)) from hp) (by simp), I.hok.kept hk, ?_⟩
  ·
    have ha' : (scope.names.map fun (n, k) => if (k == NameKind.free && X.env.scope.kind == .function && X.env.kindOf n == some .cell) then (n, NameKind.cell) else (n, k)).lookup a = some .cell \/ (scope.names.map fun (n, k) => if (k == NameKind.free && X.env.scope.kind == .function && X.env.kindOf n == some .cell) then (n, NameKind.cell) else (n, k)).lookup a = some .free := ha
    have hf : scope.names.lookup a = some .free := by
      rcases ha' with z | z
      · obtain ⟨k0, h1, h2⟩ := zc2 z
        rcases h2 with h2 | ⟨h2, _⟩
        · subst h2; exact absurd rfl (ybn L _ (zlt h1))
        · rw [h2] at h1; exact h1
      · obtain ⟨k0, h1, h2⟩ := zc2 z
        rcases h2 with h2 | ⟨_, h2⟩
        · rw [<- h2] at h1; exact h1
        · cases h2
    exact zyz X.env scope.names [] a (zlt hf) (zsq I L _ (zlt hf) rfl)
  · exact (hfp b hb).1.2.2.2.2.1 a c (sub a c e)
  · rcases (hfp b hb).1.2.2.2.1 with z | z
    · exact I.ok.noex b o e z
    · exact absurd (Nat.lt_of_lt_of_le (Heap.lt_size e) (Nat.le_trans I.ok.bsz z)) (Nat.lt_irrefl _)
  · rcases List.mem_cons.mp (I.stkSub b z) with q | q
    · exact (hfp b hb).1.2.1 q
    · exact (hfp b hb).1.2.2.1 q
  ·
    cases i with
    | zero => simp [zyq] at e2
    | succ i =>
    cases i with
    | zero => simp [zyq] at e2
    | succ j =>
      have e1' : M'[j]? = some y := e1
      have e2' : (ix.map fun i => (st[i]?).getD none)[j]? = some (some v) := e2
      rw [List.getElem?_map] at e2'
      cases ej : ix[j]? with
      | none => rw [ej] at e2'; cases e2'
      | some i0 =>
        rw [ej] at e2'
        have e4 : (st[i0]?).getD none = some v := Option.some.inj e2'
        have e5 : st[i0]? = some (some v) := by
          cases q : st[i0]? with
          | none => rw [q] at e4; cases e4
          | some o => rw [q] at e4; exact congrArg some e4
        have e6 : X.N[i0]? = some y := by
          have z := congrArg (fun l => l[j]?) L.at_
          simp only [List.getElem?_map, ej, e1', Option.map_some] at z
          exact Option.some.inj z
        have q := List.all_eq_true.mp L.vis y (List.mem_of_getElem? e1')
        simp only [Bool.and_eq_true, Bool.or_eq_true] at q
        have kx : X.env.scope.names.lookup y = some .cell \/ X.env.scope.names.lookup y = some .free := by
          rcases q.1 with z | z
          · exact .inl (eq_of_beq z)
          · exact .inr (eq_of_beq z)
        have ky : scope.names.lookup y = some .free := eq_of_beq q.2
        obtain ⟨m0, hn0, hl0⟩ := I.loc
        obtain ⟨u, ru, lu⟩ := hl0 i0 y v e6 e5 (by rcases kx with z | z; exact .inr (.inl z); exact .inr (.inr z))
        refine ⟨u, ru, .inr ⟨zfj (env := X.env) ky, ?_⟩⟩
        rcases lu with ⟨z, _⟩ | ⟨_, c, ec, zc⟩
        · rcases kx with k | k
          · rw [show X.env.kindOf y = X.env.scope.names.lookup y from rfl, k] at z; cases z
          · rw [show X.env.kindOf y = X.env.scope.names.lookup y from rfl, k] at z; cases z
        · obtain ⟨c', hc'⟩ := zyz X.env scope.names [] y (zlt ky) (zsq I L _ (zlt ky) rfl)
          have e7 := sub y c' hc'
          rw [ec] at e7; cases e7
          obtain ⟨o, ho, hd⟩ := zc
          exact ⟨c, hc', o, hk _ _ ho, hd⟩
  · obtain ⟨v, o, ho, hd⟩ := I.cell a c (sub a c e)
    exact ⟨v, o, hk _ _ ho, hd⟩
  · simp [zyq, blk]
    have z := congrArg List.length L.at_
    simpa using z
end
section
variable {T : Tb} {X : Cx}
theorem zpd {E : XK} {elt iter tgt : Expr} {ifs : List Expr} {scope : Scope} {pos : Pos} {x z0 : Str} {M' : List Str} {ix : List Nat} {tg : D -> Ev -> Option Ev} {fi : Ev -> M Bool} {fe : Ev -> M D}
    {pins : List (Addr × Obj)} {st : St} {H3 : Hp} {s3 : Shared} {h₁ : Heap} {t' : Nat} {m : Str -> Option Value} {fp : List Addr} {it D0 : Addr} {tn : Nat -> Heap -> Prop} {J : It} {nx : Src} {μ3 : List Addr} {σ3 : Sto} {ρ : Ev} {n : Nat} {Q : VK}
    (hc : X.calm = true) (L : LcOk X x M' ix scope)
    (htg : ∀ cl C s₀ H₀ ex, FG T (blk X (x :: z0 :: M') scope cl C s₀ H₀ ex) tgt tg)
    (hif : ∀ cl C s₀ H₀ ex, FIf T (blk X (x :: z0 :: M') scope cl C s₀ H₀ ex) ifs fi)
    (helt : ∀ cl C s₀ H₀ ex, FE T (blk X (x :: z0 :: M') scope cl C s₀ H₀ ex) elt fe)
    (I3 : Inv X pins st H3 s3) (hfp : ∀ b ∈ fp, yhn X pins H3 b /\ b < s3.heap.objs.size) (hns : h₁.Ns s3.heap.objs.size m) (kp : ∀ b o, s3.heap.get? b = some o -> h₁.get? b = some o)
    (TT : Turn X.prog X.w X.K tgt J fp it tn) (hst4 : tn 0 h₁) (so : yei T μ3 H3 nx J) (hE : yhl T μ3 H3 ρ st) (r3 : Rel T μ3 H3 σ3) (hn : μ3[n]? = some D0)
    (p3 : yhp T E (Rep T) μ3 H3 (bnd (ya1 nx n tg fi fe 1001 0 (zyp ix ρ)) (fun _ => ret (.ref n)) σ3) Q) {RR : Result -> Shared -> Prop}
    (fin : ∀ (s6 : Shared) (H' : Hp) (m6 : Str -> Option Value), s6.heap.Ns s3.heap.objs.size m6 -> H' s3.heap.objs.size = none -> Un (frs X.stack) fp H3 H' s3.heap s6.heap -> s6.os = s3.os -> HOk X.prog X.w H' s6.heap -> AllBare s6.gens -> Q (.ref D0) H' -> RR (.ok .next) s6) :
    codeAny (model X.prog X.w) X.A (.compStart (.ListComp elt [⟨tgt, iter, ifs, 0⟩] scope pos) 0 (.ref it) (.ref D0) (compEnvC scope (yh3 X.env scope.names []) s3.heap.objs.size X.env))
      RR { s3 with heap := h₁, toks := t' } := by
  have I4 := zh3 (z0 := z0) (h' := h₁) (t' := t') I3 L hfp hns kp
  let Y : Cx := blk X (x :: z0 :: M') scope (yh3 X.env scope.names []) s3.heap.objs.size s3 H3 fp
  have stat : ∀ {H' : Hp}, (∀ b ∈ fp, H' b = none) -> ∀ b ∈ fp, yhn Y [] H' b := fun {H'} hn b hb => ⟨hn b hb, (I4.ok.exf b hb).1, I4.ok.exfs b hb, .inl hb, (I4.ok.exf b hb).2, fun p hp => absurd (show p ∈ ([] : List (Addr × Obj)) from hp) (by simp)⟩
  have yin : codeAny (model X.prog X.w) X.A (.compLoop (.ListComp elt [⟨tgt, iter, ifs, 0⟩] scope pos) 0 (.ref it) (.ref D0) Y.env) RR { s3 with heap := h₁, toks := t' } := by
    refine codeAny_loop rfl (fun k s' => ∃ i μ' H' σ' ρ' st', Inv Y [] st' H' s' /\ tn i s'.heap /\ (∀ b ∈ fp, H' b = none) /\ Ext μ3 H3 μ' H' /\ yhl T μ' H' ρ' st' /\ Rel T μ' H' σ' /\
      yhp T E (Rep T) μ' H' (bnd (ya1 nx n tg fi fe k i ρ') (fun _ => ret (.ref n)) σ') Q) ?_ 1001 ⟨0, μ3, H3, σ3, zyp ix ρ, zyq ix st, I4, hst4, fun b hb => (hfp b hb).1.1, Ext.refl _ _, znf ix hE, r3, p3⟩
    rintro k s' ⟨i, μ', H', σ', ρ', st', I', tn', fr', ex', hE', r', p'⟩
    show wpAny _ X.A ((compTurn (.ListComp elt [⟨tgt, iter, ifs, 0⟩] scope pos) 0 (.ref it) (.ref D0) Y.env).onRaise (fun x => do noteFrame x Y.env; theTreesLotGoes x)) _ _ s'
    refine wpAny_noted ?_
    rw [compTurn_list]
    refine wpAny_mono (E := fun _ _ => False) ?_ (fun _ _ z => z) (fun _ _ z => z.elim)
    refine wpAny_bind (wpAny_standAt ?_)
    cases k with
    | zero => exact p'.elim
    | succ k =>
      have so' := so μ' H' σ' i ex' r'
      cases en : nx.nx i σ' with
      | none =>
        have e1 : ya1 nx n tg fi fe (k + 1) i ρ' σ' = .bad := by unfold ya1; simp only [en]
        rw [zkg (m' := bad) e1] at p'
        exact p'.elim
      | some od =>
        rw [en] at so'
        cases od with
        | none =>
          have e1 : ya1 nx n tg fi fe (k + 1) i ρ' σ' = .ok () σ' := by unfold ya1; simp only [en]
          rw [zkg (m' := ret ()) e1] at p'
          refine wpAny_bind (thn (TT.done Y rfl rfl rfl hc i [] s' st' H' (fun _ _ => False) I' (stat fr') tn' so') fun r s6 ⟨er, I6⟩ => ?_)
          subst er
          refine wpAny_pure ?_
          obtain ⟨m6, hm6, _⟩ := I6.loc
          exact fin s6 H' m6 hm6 I6.free I6.base I6.os I6.hok I6.bare (yhp.here p' r' (by rw [Rep]; exact ⟨_, rfl, ex'.get hn⟩))
        | some d =>
          refine wpAny_bind (thn (TT.item Y rfl rfl rfl hc i [] s' st' H' (fun _ _ => False) I' (stat fr') tn' so'.1) fun r s6 ⟨u, er, h6⟩ => ?_)
          subst er
          refine wpAny_bind (thn h6 fun _ s7 ⟨xv, H7, I7, r7, y7, tn7, fr7⟩ => ?_)
          obtain ⟨eH, hd⟩ := so'.2 xv H7 y7
          subst eH
          cases et : tg d ρ' with
          | none =>
            have e1 : ya1 nx n tg fi fe (k + 1) i ρ' σ' = .bad := by unfold ya1; simp only [en, et]
            rw [zkg (m' := bad) e1] at p'
            exact p'.elim
          | some ρ1 =>
            have e1 : ya1 nx n tg fi fe (k + 1) i ρ' σ' = bnd (nox (fi ρ1)) (fun c => if c = true then bnd (nox (fe ρ1)) fun y => bnd (zvn (.ref n) [y]) fun _ => ya1 nx n tg fi fe k (i + 1) ρ1 else ya1 nx n tg fi fe k (i + 1) ρ1) σ' := by
              conv => lhs; unfold ya1
              simp only [en, et]
            rw [zkg e1, zkf] at p'
            have I7' := I7.pinned (stat fr7) (TT.obj _ _ tn7)
            refine wpAny_bind (thn (htg _ _ _ _ _ _ s7 st' H7 xv u (fun st8 H8 => H8 = H7 /\ yhl T μ' H7 ρ1 st8) I7' r7 ⟨μ', σ', ρ', d, ρ1, hE', r', hd, et, fun st8 hE8 => ⟨rfl, hE8⟩⟩) fun _ s8 ⟨st8, H8, I8, eH8, hE8⟩ => ?_)
            subst eH8
            refine wpAny_bind (thn (hif _ _ _ _ _ _ s8 st8 H8 (fun c H9 => ∃ μ9 σ9, Ext μ' H8 μ9 H9 /\ Rel T μ9 H9 σ9 /\ yhp T E (Rep T) μ9 H9 (bnd (if c = true then bnd (nox (fe ρ1)) fun y => bnd (zvn (.ref n) [y]) fun _ => ya1 nx n tg fi fe k (i + 1) ρ1 else ya1 nx n tg fi fe k (i + 1) ρ1) (fun _ => ret (.ref n)) σ9) Q) I8
              ⟨μ', ρ1, σ', hE8, r', p'.bind0 fun c σ9 μ9 c' H9 _ e9 r9 q9 p9 => by cases q9; exact ⟨μ9, σ9, e9, r9, p9⟩⟩) fun c s9 ⟨H9, I9, μ9, σ9, e9, r9, p9⟩ => ?_)
            have again : ∀ {s11 : Shared} {H11 : Hp} {μ11 : List Addr} {σ11 : Sto}, Inv Y ([] ++ ycv fp s7.heap) st8 H11 s11 -> Ext μ' H8 μ11 H11 -> Rel T μ11 H11 σ11 -> yhp T E (Rep T) μ11 H11 (bnd (ya1 nx n tg fi fe k (i + 1) ρ1) (fun _ => ret (.ref n)) σ11) Q ->
                ∃ m, m < k + 1 /\ ∃ i μ' H' σ' ρ' st', Inv Y [] st' H' s11 /\ tn i s11.heap /\ (∀ b ∈ fp, H' b = none) /\ Ext μ3 H3 μ' H' /\ yhl T μ' H' ρ' st' /\ Rel T μ' H' σ' /\ yhp T E (Rep T) μ' H' (bnd (ya1 nx n tg fi fe m i ρ') (fun _ => ret (.ref n)) σ') Q := by
              intro s11 H11 μ11 σ11 I11 e11 r11 p11
              refine ⟨k, Nat.lt_succ_self _, i + 1, μ11, H11, σ11, ρ1, st8, I11.unpinned, TT.keep _ _ _ tn7 (fun b hb o e => (I11.pin (b, o) (List.mem_append_right _ (List.mem_append_right _ (ziy hb e)))).1), fun b hb => ?_, ex'.trans e11, hE8.mono e11, r11, p11⟩
              obtain ⟨o, e, _⟩ := TT.obj _ _ tn7 b hb
              exact (I11.pin (b, o) (List.mem_append_right _ (List.mem_append_right _ (ziy hb e)))).2.1
            cases c with
            | false =>
              rw [if_neg Bool.false_ne_true] at p9
              exact wpAny_pure ⟨rfl, again I9 e9 r9 p9⟩
            | true =>
              rw [if_pos rfl, zkf] at p9
              refine wpAny_bind (wpAny_bind (thn (helt _ _ _ _ _ _ s9 st8 H9 (fun v H10 => ∃ y μ10 σ10, Ext μ' H8 μ10 H10 /\ Rel T μ10 H10 σ10 /\ Rep T μ10 H10 y v /\ yhp T E (Rep T) μ10 H10 (bnd (zvn (.ref n) [y]) (fun _ => bnd (ya1 nx n tg fi fe k (i + 1) ρ1) (fun _ => ret (.ref n))) σ10) Q) I9
                ⟨μ9, ρ1, σ9, hE8.mono e9, r9, p9.bind0 fun y σ10 μ10 v H10 _ e10 r10 q10 p10 => ⟨y, μ10, σ10, e9.trans e10, r10, q10, by rw [zkf] at p10; exact p10⟩⟩) fun w s10 ⟨v, H10, I10, rw10, y, μ10, σ10, e10, r10, q10, p10⟩ => ?_))
              have happ := zr6 (Q := fun _ H11 => ∃ μ11 σ11, Ext μ' H8 μ11 H11 /\ Rel T μ11 H11 σ11 /\ yhp T E (Rep T) μ11 H11 (bnd (ya1 nx n tg fi fe k (i + 1) ρ1) (fun _ => ret (.ref n)) σ11) Q) r10 ((ex'.trans e10).get hn) q10
                (p10.bind fun _ σ11 μ11 v11 H11 _ e11 r11 q11 p11 => ⟨μ11, σ11, e10.trans e11, r11, p11⟩)
              refine wpAny_bind (thn (zlx (X := Y) _ s10 st8 H10 (.ref D0) [v] (.ref D0) [w] _ I10 rfl (.cons rw10 .nil) happ) fun _ s11 ⟨v11, H11, I11, _, μ11, σ11, e11, r11, p11⟩ => ?_)
              exact wpAny_pure (wpAny_pure ⟨rfl, again I11 e11 r11 p11⟩)
  exact codeAny_compStart_list yin (TT.self X.A 0 _ _ _ hst4 yin)
theorem zzq {elt iter tgt : Expr} {ifs : List Expr} {scope : Scope} {pos : Pos} {x z0 : Str} {M' : List Str} {ix : List Nat} {src : Ev -> M Src} {tg : D -> Ev -> Option Ev} {fi : Ev -> M Bool} {fe : Ev -> M D}
    (hc : X.calm = true) (L : LcOk X x M' ix scope) (hsrc : FI T X tgt iter src)
    (htg : ∀ cl C s₀ H₀ ex, FG T (blk X (x :: z0 :: M') scope cl C s₀ H₀ ex) tgt tg)
    (hif : ∀ cl C s₀ H₀ ex, FIf T (blk X (x :: z0 :: M') scope cl C s₀ H₀ ex) ifs fi)
    (helt : ∀ cl C s₀ H₀ ex, FE T (blk X (x :: z0 :: M') scope cl C s₀ H₀ ex) elt fe)
    (hs : ∀ y, foldedSetIterable iter X.env y = pure y := by intro _; rfl) :
    FE T X (.ListComp elt [⟨tgt, iter, ifs, 0⟩] scope pos) (yib src ix tg fi fe) := by
  intro pins s st H Q I h
  obtain ⟨μ, ρ, σ, hE, hr, hp⟩ := h
  rw [eval_ListComp]
  refine wpAny_comprehension_free (use := none) rfl hs (zh7 X.env scope (zsq I L)) L.kind (fun y hy e => ?_) ?_
  · have q := List.all_eq_true.mp L.names y hy
    rw [e] at q
    simp only [beq_self_eq_true, Bool.not_true, Bool.false_or] at q
    exact eq_of_beq q
  have h1 := hsrc pins s st H (fun J H2 => ∃ nx μ2 σ2, Ext μ H μ2 H2 /\ Rel T μ2 H2 σ2 /\ yei T μ2 H2 nx J /\ yhp T (XE X st) (Rep T) μ2 H2 (bnd (ya1 nx σ2.length tg fi fe 1001 0 (zyp ix ρ)) (fun _ => ret (.ref σ2.length)) (σ2 ++ [Ob.lst []])) Q) I
    ⟨μ, ρ, σ, hE, hr, hp.bind fun nx σ1 μ1 J H1 _ e1 r1 q1 p1 => ⟨nx, μ1, σ1, e1, r1, q1, p1⟩⟩
  refine thn h1 fun v s1 h2 => thn h2 fun itv s2 h3 => ?_
  obtain ⟨it, fp, tn, J, H2, rfl, I2, TT, st2, f2, nx, μ2, σ2, ex2, r2, so, p2⟩ := h3
  refine wpAny_newObj_type (wpAny_newFunctionEnv (ybn L) (by intro y hy; simp at hy) (fun h₁ hns₁ hsb₁ => ?_) L.kind)
  have I3 := I2.lnew (ys := []) (its := []) (t' := s2.toks) .nil (by simp)
  have fr2 : H2 s2.heap.objs.size = none := I2.hok.fresh (Nat.le_refl _)
  have r3 := r2.push (p := s2.heap.objs.size) (o := .lst []) (ob := .lst []) fr2 ⟨[], upd_same, yhu.nil⟩
  have ex3 : Ext μ2 H2 (μ2 ++ [s2.heap.objs.size]) (upd H2 s2.heap.objs.size (.lst [])) := zn8 fr2
  have hsz : s2.heap.objs.size < (s2.heap.push { cls := .type "list", data := .seq ([] : List Value).toArray }).objs.size := by rw [Heap.size_push]; exact Nat.lt_succ_self _
  have kp : ∀ b o, (s2.heap.push { cls := .type "list", data := .seq ([] : List Value).toArray }).get? b = some o -> h₁.get? b = some o := fun b o e => hsb₁.extBut b o (Nat.ne_of_lt (Heap.lt_size e)) (Heap.get?_push_of_some _ e)
  have hfp : ∀ b ∈ fp, yhn X pins (upd H2 s2.heap.objs.size (.lst [])) b /\ b < (s2.heap.push { cls := .type "list", data := .seq ([] : List Value).toArray }).objs.size := fun b hb => by
    obtain ⟨o, e, _⟩ := TT.obj 0 _ st2 b hb
    have lt := Heap.lt_size e
    exact ⟨⟨by rw [upd_ne (Nat.ne_of_lt lt)]; exact (f2 b hb).1, (f2 b hb).2⟩, Nat.lt_trans lt hsz⟩
  refine zpd (s3 := { s2 with heap := s2.heap.push { cls := .type "list", data := .seq ([] : List Value).toArray }, toks := s2.toks }) (n := σ2.length) (D0 := s2.heap.objs.size) hc L htg hif helt I3 hfp hns₁ kp TT (TT.keep 0 _ _ st2 fun b hb o e => kp b o (Heap.get?_push_of_some _ e))
    (fun μ H σ i ex r => so μ H σ i (ex3.trans ex) r) ((hE.mono ex2).mono ex3) r3 (by rw [<- r2.len]; simp) (p2.mono ex3) (fun s6 H' m6 hm6 hC' hu0 hos hok6 hb6 hq => ⟨m6, hm6, fun h7 hs7 => ?_⟩)
  have hu := zya hu0 hs7 (Nat.le_refl _)
  have I7 := L2.Inv.call' (s' := { s6 with heap := h7 }) (ch := fp) I3 hos hu (zo5 hok6 hs7 hC') hb6 (fun b hb => ⟨(hfp b hb).1.2.2.2.1, (hfp b hb).1.2.1, (hfp b hb).1.2.2.2.2.1, (hfp b hb).1.2.2.2.2.2⟩)
  exact ⟨.ref s2.heap.objs.size, H', I7, rfl, hq⟩
end
end L4
set_option maxHeartbeats 0
namespace K15
open PySem PySem.Spec PyProof.Rows L2 L4
def top (i : Nat) : Stmt := PySem.Challenge.pw_sidebook_k15_what_is_due.main.body.getD i (.Pass ⟨0, 0, 0, 0⟩)
structure Txt (K : PySem.W.Frag) (mg : Str -> Option Value) (ca : Nat -> Addr) : Prop where
  f__law_cell_at : yeb K mg "_law_cell_at" (top 55) ["_law_script", "_law_k"]
  f__law_mixed : yeb K mg "_law_mixed" (top 56) ["_law_cell", "_law_k"]
  f__law_pots : yeb K mg "_law_pots" (top 58) ["_law_script"]
  f_is_whole : yeb K mg "is_whole" (top 8) ["thing"]
  f_is_between : yeb K mg "is_between" (top 9) ["thing", "least", "most"]
  f_is_hand : yeb K mg "is_hand" (top 11) ["thing"]
  f_makes_a_pot : yeb K mg "makes_a_pot" (top 48) ["thing"]
  f_checked_pots : yeb K mg "checked_pots" (top 49) ["pots"]
  f_Claim___init__ : HasM K (ca 4) "__init__" "Claim.__init__" (yf4 (top 41) 0) ["self", "whole"] (ca 9)
  f_whole_of : yeb K mg "whole_of" (top 50) ["made"]
  f_Book___init__ : HasM K (ca 8) "__init__" "Book.__init__" (yf4 (top 53) 0) ["self", "pots"] (ca 22)
  f__law_small_stand : yeb K mg "_law_small_stand" (top 57) ["_law_cell", "_law_whole"]
  f_Book_next_day : HasM K (ca 8) "next_day" "Book.next_day" (yf4 (top 53) 3) ["self"] (ca 25)
  f_Book_check_pot : HasM K (ca 8) "check_pot" "Book.check_pot" (yf4 (top 53) 1) ["self", "pot"] (ca 23)
  f_is_word : yeb K mg "is_word" (top 12) ["thing"]
  f_Book_show : HasM K (ca 8) "show" "Book.show" (yf4 (top 53) 4) ["self", "pot", "word"] (ca 26)
  f_is_side : yeb K mg "is_side" (top 10) ["thing"]
  f_check_side : yeb K mg "check_side" (top 52) ["side"]
  f_deals : yeb K mg "deals" (top 32) ["one"]
  f_is_day : yeb K mg "is_day" (top 13) ["thing"]
  f_is_amount : yeb K mg "is_amount" (top 15) ["thing"]
  f_is_tie : yeb K mg "is_tie" (top 26) ["thing"]
  f_are_ties : yeb K mg "are_ties" (top 28) ["thing"]
  f_are_shares : yeb K mg "are_shares" (top 27) ["thing"]
  f_is_number : yeb K mg "is_number" (top 14) ["thing"]
  f_is_stand : yeb K mg "is_stand" (top 29) ["thing"]
  f_is_stand_of : yeb K mg "is_stand_of" (top 33) ["thing", "coin"]
  f_other_side : yeb K mg "other_side" (top 17) ["side"]
  f_is_pot : yeb K mg "is_pot" (top 16) ["thing"]
  f_is_of_a_side : yeb K mg "is_of_a_side" (top 37) ["thing"]
  f_is_thing : yeb K mg "is_thing" (top 38) ["thing"]
  f_is_agreed : yeb K mg "is_agreed" (top 51) ["pot", "side", "stand", "agreement"]
  f_stand : zye K mg "stand" (top 30) ["number", "shares", "ties"] [.none]
  f_first : yeb K mg "first" (top 31) ["left", "right"]
  f_Book_may_lie : HasM K (ca 8) "may_lie" "Book.may_lie" (yf4 (top 53) 5) ["self", "pot", "side", "stand", "agreement"] (ca 27)
  f_Laid___init__ : HasM K (ca 6) "__init__" "Laid.__init__" (yf4 (top 43) 0) ["self", "whole", "side", "stand", "day", "wait"] (ca 13)
  f_Book_lay : HasMD K (ca 8) "lay" "Book.lay" (yf4 (top 53) 6) ["self", "pot", "side", "stand", "agreement"] [.none] (ca 28)
  f_Held_told : HasM K (ca 5) "told" "Held.told" (yf4 (top 42) 0) ["self"] (ca 10)
  f_Laid_told : HasM K (ca 6) "told" "Laid.told" (yf4 (top 43) 1) ["self"] (ca 14)
  f_Taken_told : HasM K (ca 7) "told" "Taken.told" (yf4 (top 44) 1) ["self"] (ca 19)
  f_Book_told : HasM K (ca 8) "told" "Book.told" (yf4 (top 53) 8) ["self", "pot"] (ca 30)
  f_Held_may_strike : HasM K (ca 5) "may_strike" "Held.may_strike" (yf4 (top 42) 2) ["self", "pot", "side", "day", "thing"] (ca 12)
  f_Laid_waits : HasM K (ca 6) "waits" "Laid.waits" (yf4 (top 43) 2) ["self", "day"] (ca 15)
  f_Laid_may_strike : HasM K (ca 6) "may_strike" "Laid.may_strike" (yf4 (top 43) 4) ["self", "pot", "side", "day", "thing"] (ca 17)
  f_Taken_may_strike : HasM K (ca 7) "may_strike" "Taken.may_strike" (yf4 (top 44) 3) ["self", "pot", "side", "day", "thing"] (ca 21)
  f_Taken___init__ : HasM K (ca 7) "__init__" "Taken.__init__" (yf4 (top 44) 0) ["self", "whole", "side"] (ca 18)
  f_Book_strike : HasM K (ca 8) "strike" "Book.strike" (yf4 (top 53) 7) ["self", "pot", "side", "thing"] (ca 29)
  f__law_try : yeb K mg "_law_try" (top 59) ["_law_book", "_law_pots_here", "_law_cell"]
  f_Book_today : HasM K (ca 8) "today" "Book.today" (yf4 (top 53) 2) ["self"] (ca 24)
  f_Book_shown_for : HasM K (ca 8) "shown_for" "Book.shown_for" (yf4 (top 53) 9) ["self", "pot"] (ca 31)
  f__law_due : yeb K mg "_law_due" (top 60) ["_law_book", "_law_pot", "_law_whole", "_law_wait"]
  f_Held_comes : HasM K (ca 5) "comes" "Held.comes" (yf4 (top 42) 1) ["self", "day", "shown"] (ca 11)
  f_shown_in_time : yeb K mg "shown_in_time" (top 35) ["tie", "shown"]
  f_side_due : yeb K mg "side_due" (top 40) ["tie", "day", "shown"]
  f_with_more : yeb K mg "with_more" (top 34) ["shares", "side", "amount"]
  f_Laid_comes : HasM K (ca 6) "comes" "Laid.comes" (yf4 (top 43) 3) ["self", "day", "shown"] (ca 16)
  f_Taken_comes : HasM K (ca 7) "comes" "Taken.comes" (yf4 (top 44) 2) ["self", "day", "shown"] (ca 20)
  f_Book_due_of : HasM K (ca 8) "due_of" "Book.due_of" (yf4 (top 53) 10) ["self", "pot"] (ca 32)
  f_Book_coin_of : HasM K (ca 8) "coin_of" "Book.coin_of" (yf4 (top 53) 11) ["self", "hand"] (ca 33)
  f_Book_is_over : HasM K (ca 8) "is_over" "Book.is_over" (yf4 (top 53) 12) ["self"] (ca 34)
  f__law_refused : yeb K mg "_law_refused" (top 61) ["_law_book", "_law_pot", "_law_hand"]
  f_law : yeb K mg "law" (top 62) ["_law_script"]
  n_all : mg "all" = none
  n_bool : mg "bool" = none
  n_dict : mg "dict" = none
  n_enumerate : mg "enumerate" = none
  n_int : mg "int" = none
  n_isinstance : mg "isinstance" = none
  n_len : mg "len" = none
  n_list : mg "list" = none
  n_min : mg "min" = none
  n_range : mg "range" = none
  n_set : mg "set" = none
  n_str : mg "str" = none
  n_sum : mg "sum" = none
  n_tuple : mg "tuple" = none
  c_MOST_AMOUNT : ∃ t, mg "MOST_AMOUNT" = some (.int 1000000000000 t)
  c_MOST_COIN : ∃ t, mg "MOST_COIN" = some (.int 1000000000000 t)
  c_MOST_DAY : ∃ t, mg "MOST_DAY" = some (.int 1000000 t)
  c_MOST_HAND : ∃ t, mg "MOST_HAND" = some (.int 3 t)
  c_MOST_NUMBER : ∃ t, mg "MOST_NUMBER" = some (.int 1000000 t)
  c_MOST_POT : ∃ t, mg "MOST_POT" = some (.int 2 t)
  c_MOST_SHARE : ∃ t, mg "MOST_SHARE" = some (.int 2000000000000 t)
  c_MOST_TIES : ∃ t, mg "MOST_TIES" = some (.int 6 t)
  c_MOST_WAIT : ∃ t, mg "MOST_WAIT" = some (.int 100 t)
  c_MOST_WORD : ∃ t, mg "MOST_WORD" = some (.int 59 t)
  m_BookError : mg "BookError" = some (.ref (ca 0))
  x_BookError : PySem.W.excIn K (ca 0) veB "ValueError.__new__" = true
  m_NoStand : mg "NoStand" = some (.ref (ca 1))
  x_NoStand : PySem.W.excIn K (ca 1) veB "ValueError.__new__" = true
  m_NoDeed : mg "NoDeed" = some (.ref (ca 2))
  x_NoDeed : PySem.W.excIn K (ca 2) veB "ValueError.__new__" = true
  e_BookError_NoDeed : PySem.W.exmOne K (.ref (ca 0)) (.ref (ca 2)) = some false
  e_NoDeed_NoDeed : PySem.W.exmOne K (.ref (ca 2)) (.ref (ca 2)) = some true
  e_NoStand_NoDeed : PySem.W.exmOne K (.ref (ca 1)) (.ref (ca 2)) = some false
  cl_Book : L2.Cls K (ca 8)
  na_Book_pots : L2.zyf K (ca 8) "pots"
  na_Book_day : L2.zyf K (ca 8) "day"
  cl_Laid : L2.Cls K (ca 6)
  na_Laid_day : L2.zyf K (ca 6) "day"
  cl_Taken : L2.Cls K (ca 7)
  na_Taken_whole : L2.zyf K (ca 7) "whole"
  na_Laid_whole : L2.zyf K (ca 6) "whole"
  cl_Held : L2.Cls K (ca 5)
  na_Held_whole : L2.zyf K (ca 5) "whole"
  cl_Claim : L2.Cls K (ca 4)
  na_Claim_whole : L2.zyf K (ca 4) "whole"
  m_Held : mg "Held" = some (.ref (ca 5))
  mk_Held : L2.Mk K (ca 5) (ca 9)
  na_Book_claims : L2.zyf K (ca 8) "claims"
  na_Book_shown : L2.zyf K (ca 8) "shown"
  m_Book : mg "Book" = some (.ref (ca 8))
  mk_Book : L2.Mk K (ca 8) (ca 22)
  me_Book_next_day : L2.Meth K (ca 8) "next_day" (ca 25)
  me_Book_check_pot : L2.Meth K (ca 8) "check_pot" (ca 23)
  me_Book_show : L2.Meth K (ca 8) "show" (ca 26)
  ik_Book : L4.InK K (ca 8)
  io_Book_Held : PySem.W.kitOne K (.ref (ca 8)) (.ref (ca 5)) = some false
  ik_Taken : L4.InK K (ca 7)
  io_Taken_Held : PySem.W.kitOne K (.ref (ca 7)) (.ref (ca 5)) = some false
  ik_Laid : L4.InK K (ca 6)
  io_Laid_Held : PySem.W.kitOne K (.ref (ca 6)) (.ref (ca 5)) = some false
  ik_Held : L4.InK K (ca 5)
  io_Held_Held : PySem.W.kitOne K (.ref (ca 5)) (.ref (ca 5)) = some true
  me_Book_may_lie : L2.Meth K (ca 8) "may_lie" (ca 27)
  m_Claim : mg "Claim" = some (.ref (ca 4))
  us_Claim___init__ : PySem.W.specialIn K (.ref (ca 4)) (Str.ofString "__getattribute__") = some (some (.builtin "type.__getattribute__"))
  ur_Claim___init__ : PySem.W.readsIn K (ca 4) (.type "type") = true
  uf_Claim___init__ : PySem.W.findCls K (.ref (ca 4)) (.type "type") "__init__" = some (.val (.ref (ca 9)))
  uk_Claim___init__ : PySem.W.keepIn K (.ref (ca 9)) = true
  na_Taken_side : L2.zyf K (ca 7) "side"
  na_Laid_side : L2.zyf K (ca 6) "side"
  na_Laid_stand : L2.zyf K (ca 6) "stand"
  na_Laid_wait : L2.zyf K (ca 6) "wait"
  m_Laid : mg "Laid" = some (.ref (ca 6))
  mk_Laid : L2.Mk K (ca 6) (ca 13)
  me_Book_lay : L2.Meth K (ca 8) "lay" (ca 28)
  me_Taken_told : L2.Meth K (ca 7) "told" (ca 19)
  me_Laid_told : L2.Meth K (ca 6) "told" (ca 14)
  me_Held_told : L2.Meth K (ca 5) "told" (ca 10)
  me_Book_told : L2.Meth K (ca 8) "told" (ca 30)
  me_Laid_waits : L2.Meth K (ca 6) "waits" (ca 15)
  me_Taken_may_strike : L2.Meth K (ca 7) "may_strike" (ca 21)
  me_Laid_may_strike : L2.Meth K (ca 6) "may_strike" (ca 17)
  me_Held_may_strike : L2.Meth K (ca 5) "may_strike" (ca 12)
  m_Taken : mg "Taken" = some (.ref (ca 7))
  mk_Taken : L2.Mk K (ca 7) (ca 18)
  me_Book_strike : L2.Meth K (ca 8) "strike" (ca 29)
  me_Book_today : L2.Meth K (ca 8) "today" (ca 24)
  me_Book_shown_for : L2.Meth K (ca 8) "shown_for" (ca 31)
  me_Taken_comes : L2.Meth K (ca 7) "comes" (ca 20)
  me_Laid_comes : L2.Meth K (ca 6) "comes" (ca 16)
  me_Held_comes : L2.Meth K (ca 5) "comes" (ca 11)
  me_Book_due_of : L2.Meth K (ca 8) "due_of" (ca 32)
  me_Book_coin_of : L2.Meth K (ca 8) "coin_of" (ca 33)
  me_Book_is_over : L2.Meth K (ca 8) "is_over" (ca 34)
section
variable {P : Program} {w : World} {K : PySem.W.Frag} {mg : Str -> Option Value} {base : Heap} {ca : Nat -> Addr}
abbrev BD (x q : Str) (s : Stmt) (ps : List Str) : Prop := ∀ (kV doc pm : Value) (an : Option Addr) (cdv ct : Value) (us : List Value), us.length = ps.length -> bindArgs (PySem.W.fnOf x q (zs1 s) (zs2 s) (znx s) .none kV doc pm an cdv ct) ⟨us, []⟩ = pure (ps.zip us)
abbrev zc6 : Stmt := top 55
noncomputable def zct : Ev -> M Fl :=
  (yjp (sIf (eT (yh9 oLt (yif 1) (ye2 yi1 (yej (yif 0) yhx)))) (yjo (yh9 oIx (yif 0) (yif 1))) yjm)
  (yjo (eC (.int 0))))
noncomputable def f__law_cell_at : List D -> M D := hide fun ds => frz (run 2 zct ds)
theorem zch : FnScope ["_law_script", "_law_k"] ["_law_script", "_law_k"] (znx zc6) := ⟨rfl, rfl, rfl, by decide +kernel, rfl, by decide +kernel, by decide +kernel⟩
theorem zbu : BD "_law_cell_at" "_law_cell_at" zc6 ["_law_script", "_law_k"] :=
  fun _ _ _ _ _ _ us hl => match us, hl with | [_, _], _ => rfl
theorem zb6 (Xt : Txt K mg ca) : OkF ⟨K, ca⟩ P w mg base 1 "_law_cell_at" ["_law_script", "_law_k"] f__law_cell_at :=
  OkF.hide (OkF.frz (ygh Xt.f__law_cell_at zch fun _ _ _ _ _ _ _ hr =>
    (zov (yfi (yad ygk yds (zzy 1) (zn9 zev (zxs rfl) rfl Xt.n_len PySem.boot_len (ztg (zzy 0) zzi)) (ybo _)) (zt4 (yaa (ye9 yil (ydq rfl) (zzy 0) (zzy 1) (fun _ _ => rfl)))) zt3)
    (zt4 (yaa zzn)))))
abbrev zfp : Stmt := top 56
noncomputable def ze3 : Ev -> M Fl :=
  (yjp (sIf (eT (yh9 oEq (yh9 yi2 (yif 0) (eC (.int 2))) (eC (.int 0)))) (yjo (yh9 yf9 (yh9 oShr (yh9 yiw (yif 0) (eC (.int 2))) (yh9 yi3 (eC (.int 41)) (yif 1))) (eC (.int 2199023255551)))) yjm)
  (yjp (yjq 2 (yh9 yi2 (yh9 yi3 (yh9 yis (yh9 yis (yh9 yi2 (yif 0) (eC (.int 2147483647))) (yh9 yi3 (eC (.int 7919)) (yif 1))) (eC (.int 1))) (eC (.int 48271))) (eC (.int 2147483647))))
  (yjp (yjq 2 (yh9 yi2 (yh9 yi3 (yif 2) (yh9 yis (yh9 yiw (yif 2) (eC (.int 1009))) (eC (.int 69621)))) (eC (.int 2147483647))))
  (yjo (yh9 yi2 (yh9 yi3 (yif 2) (yh9 yis (yh9 yis (yh9 yiw (yif 2) (eC (.int 4099))) (eC (.int 16807))) (yif 1))) (eC (.int 2147483629)))))))
noncomputable def f__law_mixed : List D -> M D := hide fun ds => frz (run 3 ze3 ds)
theorem zee : FnScope ["_law_cell", "_law_k", "_law_number"] ["_law_cell", "_law_k"] (znx zfp) := ⟨rfl, rfl, rfl, by decide +kernel, rfl, by decide +kernel, by decide +kernel⟩
theorem zdk : BD "_law_mixed" "_law_mixed" zfp ["_law_cell", "_law_k"] :=
  fun _ _ _ _ _ _ us hl => match us, hl with | [_, _], _ => rfl
theorem zdz (Xt : Txt K mg ca) : OkF ⟨K, ca⟩ P w mg base 1 "_law_mixed" ["_law_cell", "_law_k"] f__law_mixed :=
  OkF.hide (OkF.frz (ygh Xt.f__law_mixed zee fun _ _ _ _ _ _ _ hr =>
    (zov (yfi (yad (yb8 (hu9 hr)) yju (yfc yca zxt (zzy 0) zzn) zzn (ybo _)) (zt4 (yaa (yfc yb5 zrb (yfc ycf zxx (yfc zv3 zxq (zzy 0) zzn) (yfc ycb zxu zzn (zzy 1))) zzn))) zt3)
    (zov (yab (i := 2) zee.nd rfl (Or.inl rfl) (yfc yca zxt (yfc ycb zxu (yfc (zv1 rfl) yju (yfc (zv1 rfl) yju (yfc yca zxt (zzy 0) zzn) (yfc ycb zxu zzn (zzy 1))) zzn) zzn) zzn))
    (zov (yab (i := 2) zee.nd rfl (Or.inl rfl) (yfc yca zxt (yfc ycb zxu (zzy 2) (yfc (zv1 rfl) yju (yfc zv3 zxq (zzy 2) zzn) zzn)) zzn))
    (zt4 (yaa (yfc yca zxt (yfc ycb zxu (zzy 2) (yfc (zv1 rfl) yju (yfc (zv1 rfl) yju (yfc zv3 zxq (zzy 2) zzn) zzn) (zzy 1))) zzn))))))))
abbrev zhg : Stmt := top 58
noncomputable def zgm : Ev -> M Fl :=
  (yjp (yjq 1 (yic yhx))
  (yjp (yjl (yjv (yh9 yis (eC (.int 1)) (yh9 yi2 (eFn 2 f__law_cell_at [] (yej (yif 0) (yej (eC (.int 0)) yhx))) (eC (.int 3))))) (tgN 2) (yjp (yjq 3 (eFn 2 f__law_mixed [] (yej (eFn 2 f__law_cell_at [] (yej (yif 0) (yej (yh9 yis (eC (.int 1)) (yif 2)) yhx))) (yej (eC (.int 30)) yhx))))
  (yjp (yjq 4 (yh9 oIx (eLv (yej (yh9 yi2 (yh9 yiw (yif 3) (eC (.int 4))) (eC (.int 41))) (yej (yh9 yi2 (yh9 yiw (yif 3) (eC (.int 4))) (yh9 yi5 (eC (.int 10)) (eC (.int 6)))) yhx))) (yh9 yiw (yh9 yi2 (yh9 yiw (yif 3) (eC (.int 3))) (eC (.int 3))) (eC (.int 2)))))
  (yjk (ye5 zvn (yif 1) (yej (yie (yej (yh9 yi2 (yif 3) (eC (.int 2))) (yej (yh9 yis (eC (.int 2)) (yh9 yi2 (yh9 yiw (yif 3) (eC (.int 2))) (eC (.int 2)))) (yej (yif 4) (yej (yh9 yi2 (yh9 yiw (yif 3) (eC (.int 164))) (eC (.int 21))) (yej (yh9 yis (eC (.int 1)) (yh9 yi2 (yh9 yiw (yif 3) (eC (.int 4000))) (eC (.int 6)))) yhx)))))) yhx))))))
  (yjo (yif 1))))
noncomputable def f__law_pots : List D -> M D := hide fun ds => frz (run 5 zgm ds)
theorem zfy : FnScope ["_law_script", "_law_pots_here", "_law_k", "_law_number", "_law_coin"] ["_law_script"] (znx zhg) := ⟨rfl, rfl, rfl, by decide +kernel, rfl, by decide +kernel, by decide +kernel⟩
theorem zep : BD "_law_pots" "_law_pots" zhg ["_law_script"] :=
  fun _ _ _ _ _ _ us hl => match us, hl with | [_], _ => rfl
theorem zfd (Xt : Txt K mg ca) : OkF ⟨K, ca⟩ P w mg base 2 "_law_pots" ["_law_script"] f__law_pots :=
  OkF.hide (OkF.frz (ygh Xt.f__law_pots zfy fun _ _ _ _ _ _ _ hr =>
    (zov (yab (i := 1) zfy.nd rfl (Or.inl rfl) (zzr zzi))
    (zov (zz9 zl9 rfl (zoj rfl Xt.n_range (yfc (zv1 rfl) yju zzn (yfc yca zxt (zoa (zb6 Xt) rfl (hr.mono (by decide)) rfl (ztg (zzy 0) (ztg zzn zzi))) zzn))) (zto (i := 2) zfy.nd rfl (Or.inl rfl)) (zov (yab (i := 3) zfy.nd rfl (Or.inl rfl) (zoa (zdz Xt) rfl (hr.mono (by decide)) rfl (ztg (zoa (zb6 Xt) rfl (hr.mono (by decide)) rfl (ztg (zzy 0) (ztg (yfc (zv1 rfl) yju zzn (zzy 2)) zzi))) (ztg zzn zzi))))
    (zov (yab (i := 4) zfy.nd rfl (Or.inl rfl) (ye9 yil (ydq rfl) (yfb (ztg (yfc yca zxt (yfc zv3 zxq (zzy 3) zzn) zzn) (ztg (yfc yca zxt (yfc zv3 zxq (zzy 3) zzn) (yfc ycd zxw zzn zzn)) zzi))) (yfc zv3 zxq (yfc yca zxt (yfc zv3 zxq (zzy 3) zzn) zzn) zzn) (fun _ _ => rfl)))
    (zt4 (ztz (ztl PySem.F.plainAttrs_list PySem.F.slot_list_append PySem.F.type_list_append zlx zjw (zzy 1) (ztg (zzx (ztg (yfc yca zxt (zzy 3) zzn) (ztg (yfc (zv1 rfl) yju zzn (yfc yca zxt (yfc zv3 zxq (zzy 3) zzn) zzn)) (ztg (zzy 4) (ztg (yfc yca zxt (yfc zv3 zxq (zzy 3) zzn) zzn) (ztg (yfc (zv1 rfl) yju zzn (yfc yca zxt (yfc zv3 zxq (zzy 3) zzn) zzn)) zzi)))))) zzi)))))))
    (zt4 (yaa (zzy 1)))))))
abbrev zjk : Stmt := top 8
noncomputable def zih : Ev -> M Fl :=
  (yjo (yh8 (eUn (yiy .int) (yif 0)) (eNot (eUn (yiy .bool) (yif 0)))))
noncomputable def f_is_whole : List D -> M D := hide fun ds => frz (run 1 zih ds)
theorem zhr : FnScope ["thing"] ["thing"] (znx zjk) := ⟨rfl, rfl, rfl, by decide +kernel, rfl, by decide +kernel, by decide +kernel⟩
theorem zgc : BD "is_whole" "is_whole" zjk ["thing"] :=
  fun _ _ _ _ _ _ us hl => match us, hl with | [_], _ => rfl
theorem zg5 (Xt : Txt K mg ca) : OkF ⟨K, ca⟩ P w mg base 1 "is_whole" ["thing"] f_is_whole :=
  OkF.hide (OkF.frz (ygh Xt.f_is_whole zhr fun _ _ _ _ _ _ _ hr =>
    (zt4 (yaa (zzj (zzo .int (zzy 0) rfl Xt.n_isinstance rfl Xt.n_int boot_int) (zzv (zzu (zzo .bool (zzy 0) rfl Xt.n_isinstance rfl Xt.n_bool boot_bool))))))))
abbrev zfs : Stmt := top 9
noncomputable def ze6 : Ev -> M Fl :=
  (yjo (yh8 (eFn 1 f_is_whole [] (yej (yif 0) yhx)) (zy8 oLe oLe (yif 1) (yif 0) (yif 2))))
noncomputable def f_is_between : List D -> M D := hide fun ds => frz (run 3 ze6 ds)
theorem zeh : FnScope ["thing", "least", "most"] ["thing", "least", "most"] (znx zfs) := ⟨rfl, rfl, rfl, by decide +kernel, rfl, by decide +kernel, by decide +kernel⟩
theorem zdn : BD "is_between" "is_between" zfs ["thing", "least", "most"] :=
  fun _ _ _ _ _ _ us hl => match us, hl with | [_, _, _], _ => rfl
theorem zd2 (Xt : Txt K mg ca) : OkF ⟨K, ca⟩ P w mg base 2 "is_between" ["thing", "least", "most"] f_is_between :=
  OkF.hide (OkF.frz (ygh Xt.f_is_between zeh fun _ _ _ _ _ _ _ hr =>
    (zt4 (yaa (zzj (zoa (zg5 Xt) rfl (hr.mono (by decide)) rfl (ztg (zzy 0) zzi)) (zzv (zob ygj ydr ygj ydr (zzy 1) (zzy 0) (zzy 2))))))))
abbrev zmk : Stmt := top 11
noncomputable def zk2 : Ev -> M Fl :=
  (yjo (eFn 3 f_is_between [] (yej (yif 0) (yej (eC (.int 0)) (yej (eC (.int 3)) yhx)))))
noncomputable def f_is_hand : List D -> M D := hide fun ds => frz (run 1 zk2 ds)
theorem zjn : FnScope ["thing"] ["thing"] (znx zmk) := ⟨rfl, rfl, rfl, by decide +kernel, rfl, by decide +kernel, by decide +kernel⟩
theorem zh0 : BD "is_hand" "is_hand" zmk ["thing"] :=
  fun _ _ _ _ _ _ us hl => match us, hl with | [_], _ => rfl
theorem zi4 (Xt : Txt K mg ca) : OkF ⟨K, ca⟩ P w mg base 3 "is_hand" ["thing"] f_is_hand :=
  OkF.hide (OkF.frz (ygh Xt.f_is_hand zjn fun _ _ _ _ _ _ _ hr =>
    (zt4 (yaa (zoa (zd2 Xt) rfl (hr.mono (by decide)) rfl (ztg (zzy 0) (ztg zzn (ztg (zod (u := .int 3 (Xt.c_MOST_HAND).choose) rfl (Xt.c_MOST_HAND).choose_spec ⟨_, rfl⟩) zzi))))))))
abbrev zd8 : Stmt := top 48
noncomputable def zdt : Ev -> M Fl :=
  (yjo (yh8 (eUn (yiy .tuple) (yif 0)) (yh8 (yh9 oEq (ye2 yi1 (yej (yif 0) yhx)) (eC (.int 5))) (yh8 (eFn 1 f_is_hand [] (yej (yh9 oIx (yif 0) (eC (.int 0))) yhx)) (yh8 (eFn 1 f_is_hand [] (yej (yh9 oIx (yif 0) (eC (.int 1))) yhx)) (yh8 (yh9 oNe (yh9 oIx (yif 0) (eC (.int 0))) (yh9 oIx (yif 0) (eC (.int 1)))) (yh8 (eFn 3 f_is_between [] (yej (yh9 oIx (yif 0) (eC (.int 2))) (yej (eC (.int 0)) (yej (eC (.int 1000000000000)) yhx)))) (yh8 (eFn 3 f_is_between [] (yej (yh9 oIx (yif 0) (eC (.int 3))) (yej (eC (.int 0)) (yej (eC (.int 1000000000000)) yhx)))) (eFn 3 f_is_between [] (yej (yh9 oIx (yif 0) (eC (.int 4))) (yej (eC (.int 1)) (yej (eC (.int 100)) yhx))))))))))))
noncomputable def f_makes_a_pot : List D -> M D := hide fun ds => frz (run 1 zdt ds)
theorem zde : FnScope ["thing"] ["thing"] (znx zd8) := ⟨rfl, rfl, rfl, by decide +kernel, rfl, by decide +kernel, by decide +kernel⟩
theorem zcp : BD "makes_a_pot" "makes_a_pot" zd8 ["thing"] :=
  fun _ _ _ _ _ _ us hl => match us, hl with | [_], _ => rfl
theorem zc1 (Xt : Txt K mg ca) : OkF ⟨K, ca⟩ P w mg base 4 "makes_a_pot" ["thing"] f_makes_a_pot :=
  OkF.hide (OkF.frz (ygh Xt.f_makes_a_pot zde fun _ _ _ _ _ _ _ hr =>
    (zt4 (yaa (zzj (zzo .tuple (zzy 0) rfl Xt.n_isinstance rfl Xt.n_tuple boot_tuple) (zzj (zzk (yb8 (hu9 hr)) yju (zn9 zev (zxs rfl) rfl Xt.n_len PySem.boot_len (ztg (zzy 0) zzi)) zzn (ybo _)) (zzj (zoa (zi4 Xt) rfl (hr.mono (by decide)) rfl (ztg (ye9 yil (ydq rfl) (zzy 0) zzn (fun _ _ => rfl)) zzi)) (zzj (zoa (zi4 Xt) rfl (hr.mono (by decide)) rfl (ztg (ye9 yil (ydq rfl) (zzy 0) zzn (fun _ _ => rfl)) zzi)) (zzj (zzk (ycc (hu9 hr)) yju (ye9 yil (ydq rfl) (zzy 0) zzn (fun _ _ => rfl)) (ye9 yil (ydq rfl) (zzy 0) zzn (fun _ _ => rfl)) (ybo _)) (zzj (zoa (zd2 Xt) rfl (hr.mono (by decide)) rfl (ztg (ye9 yil (ydq rfl) (zzy 0) zzn (fun _ _ => rfl)) (ztg zzn (ztg (zod (u := .int 1000000000000 (Xt.c_MOST_COIN).choose) rfl (Xt.c_MOST_COIN).choose_spec ⟨_, rfl⟩) zzi)))) (zzj (zoa (zd2 Xt) rfl (hr.mono (by decide)) rfl (ztg (ye9 yil (ydq rfl) (zzy 0) zzn (fun _ _ => rfl)) (ztg zzn (ztg (zod (u := .int 1000000000000 (Xt.c_MOST_COIN).choose) rfl (Xt.c_MOST_COIN).choose_spec ⟨_, rfl⟩) zzi)))) (zzv (zoa (zd2 Xt) rfl (hr.mono (by decide)) rfl (ztg (ye9 yil (ydq rfl) (zzy 0) zzn (fun _ _ => rfl)) (ztg zzn (ztg (zod (u := .int 100 (Xt.c_MOST_WAIT).choose) rfl (Xt.c_MOST_WAIT).choose_spec ⟨_, rfl⟩) zzi))))))))))))))))
abbrev zc8 : Stmt := top 49
noncomputable def zcv : Ev -> M Fl :=
  (yjp (ygv (srcE (yif 0)) (tgT 2 (ydx (tgN 1) (ydx (tgN 2) yhc))) (sIf (bOr (eT (yh9 oGt (yif 1) (eC (.int 2)))) (yh0 (eT (eFn 1 f_makes_a_pot [] (yej (yif 2) yhx))))) sBad yjm))
  (yjo (yia (ye2 ygc (yej (yif 0) yhx)))))
noncomputable def f_checked_pots : List D -> M D := hide fun ds => frz (run 3 zcv ds)
theorem zcj : FnScope ["pots", "number", "made"] ["pots"] (znx zc8) := ⟨rfl, rfl, rfl, by decide +kernel, rfl, by decide +kernel, by decide +kernel⟩
theorem zbw : BD "checked_pots" "checked_pots" zc8 ["pots"] :=
  fun _ _ _ _ _ _ us hl => match us, hl with | [_], _ => rfl
theorem zb8 (Xt : Txt K mg ca) : OkF ⟨K, ca⟩ P w mg base 5 "checked_pots" ["pots"] f_checked_pots :=
  OkF.hide (OkF.frz (ygh Xt.f_checked_pots zcj fun _ _ _ _ _ _ _ hr =>
    (zov (zt0 zl9 rfl (ztq rfl Xt.n_enumerate (zzy 0)) (zzz rfl (zoi (zto (i := 1) zcj.nd rfl (Or.inl rfl)) (zoi (zto (i := 2) zcj.nd rfl (Or.inl rfl)) ztp))) (zt4 (yfi (L2.PW.pt (yfj (yad ygi ydo (zzy 1) (zod (u := .int 2 (Xt.c_MOST_POT).choose) rfl (Xt.c_MOST_POT).choose_spec ⟨_, rfl⟩) (ybo _)) (yai (yae (yaf (zoa (zc1 Xt) rfl (hr.mono (by decide)) rfl (ztg (zzy 2) zzi))))))) (zt4 zz7) zt3)))
    (zt4 (yaa (zzm (zkx zew (zrd rfl) rfl Xt.n_list boot_list (ztg (zzy 0) zzi))))))))
abbrev zbk : Stmt := yf4 (top 41) 0
noncomputable def zbc : Ev -> M Fl :=
  (yjn [4, 5, 6, 7] "whole" (yif 1) (yif 0))
noncomputable def f_Claim___init__ : List D -> M D := hide (run 2 zbc)
theorem za4 : FnScope ["self", "whole"] ["self", "whole"] (znx zbk) := ⟨rfl, rfl, rfl, by decide +kernel, rfl, by decide +kernel, by decide +kernel⟩
theorem zas : BD "__init__" "Claim.__init__" zbk ["self", "whole"] :=
  fun _ _ _ _ _ _ us hl => match us, hl with | [_, _], _ => rfl
theorem zay (Xt : Txt K mg ca) : OkA ⟨K, ca⟩ P w mg base 1 (ca 9) ["self", "whole"] f_Claim___init__ :=
  OkA.hide (yby Xt.f_Claim___init__ za4 fun _ _ _ _ _ _ hr =>
    (zt4 (zz8 rfl (zoo (T := ⟨K, ca⟩) (c := 4) Xt.cl_Claim Xt.na_Claim_whole (zoo (T := ⟨K, ca⟩) (c := 5) Xt.cl_Held Xt.na_Held_whole (zoo (T := ⟨K, ca⟩) (c := 6) Xt.cl_Laid Xt.na_Laid_whole (zoo (T := ⟨K, ca⟩) (c := 7) Xt.cl_Taken Xt.na_Taken_whole zts)))) (zzy 0) (zzy 1))))
abbrev zjm : Stmt := top 50
noncomputable def zij : Ev -> M Fl :=
  (yjo (yh9 yis (yh9 oIx (yif 0) (eC (.int 2))) (yh9 oIx (yif 0) (eC (.int 3)))))
noncomputable def f_whole_of : List D -> M D := hide fun ds => frz (run 1 zij ds)
theorem zhu : FnScope ["made"] ["made"] (znx zjm) := ⟨rfl, rfl, rfl, by decide +kernel, rfl, by decide +kernel, by decide +kernel⟩
theorem zge : BD "whole_of" "whole_of" zjm ["made"] :=
  fun _ _ _ _ _ _ us hl => match us, hl with | [_], _ => rfl
theorem zg7 (Xt : Txt K mg ca) : OkF ⟨K, ca⟩ P w mg base 1 "whole_of" ["made"] f_whole_of :=
  OkF.hide (OkF.frz (ygh Xt.f_whole_of zhu fun _ _ _ _ _ _ _ hr =>
    (zt4 (yaa (yfc (zv1 rfl) yju (ye9 yil (ydq rfl) (zzy 0) zzn (fun _ _ => rfl)) (ye9 yil (ydq rfl) (zzy 0) zzn (fun _ _ => rfl)))))))
abbrev zca : Stmt := yf4 (top 53) 0
noncomputable def zby : Ev -> M Fl :=
  (yjp (yjn [8] "pots" (eFn 1 f_checked_pots [] (yej (yif 1) yhx)) (yif 0))
  (yjp (yjn [6, 8] "day" (eC (.int 0)) (yif 0))
  (yjp (yjn [8] "claims" (eLC (yjw (eUn (yix [8] "pots") (yif 0))) [] (tgN 0) yeo (yia (ye4 5 2 f_Claim___init__ (yej (eFn 1 f_whole_of [] (yej (yif 0) yhx)) yhx)))) (yif 0))
  (yjn [8] "shown" (eLC (yjw (eUn (yix [8] "pots") (yif 0))) [] (tgN 0) yeo ye3) (yif 0)))))
noncomputable def f_Book___init__ : List D -> M D := hide (run 2 zby)
theorem zbm : FnScope ["self", "pots"] ["self", "pots"] (znx zca) := ⟨rfl, rfl, rfl, by decide +kernel, rfl, by decide +kernel, by decide +kernel⟩
theorem za6 : BD "__init__" "Book.__init__" zca ["self", "pots"] :=
  fun _ _ _ _ _ _ us hl => match us, hl with | [_, _], _ => rfl
theorem zbe (Xt : Txt K mg ca) : OkA ⟨K, ca⟩ P w mg base 6 (ca 22) ["self", "pots"] f_Book___init__ :=
  OkA.hide (yby Xt.f_Book___init__ zbm fun _ _ _ _ _ _ hr =>
    (zov (zz8 rfl (zoo (T := ⟨K, ca⟩) (c := 8) Xt.cl_Book Xt.na_Book_pots zts) (zzy 0) (zoa (zb8 Xt) rfl (hr.mono (by decide)) rfl (ztg (zzy 1) zzi)))
    (zov (zz8 rfl (zoo (T := ⟨K, ca⟩) (c := 6) Xt.cl_Laid Xt.na_Laid_day (zoo (T := ⟨K, ca⟩) (c := 8) Xt.cl_Book Xt.na_Book_day zts)) (zzy 0) zzn)
    (zov (zz8 rfl (zoo (T := ⟨K, ca⟩) (c := 8) Xt.cl_Book Xt.na_Book_claims zts) (zzy 0) (yfa (x := "made") (M' := []) (ix := []) rfl ⟨rfl, rfl, rfl, rfl, rfl, rfl⟩ (zz0 rfl (zzl rfl (zoo (T := ⟨K, ca⟩) (c := 8) Xt.cl_Book Xt.na_Book_pots zts) (zzy 0))) (fun _ _ _ _ _ => zto (i := 0) (by show List.Nodup (("made" :: []) : List Str); decide +kernel) rfl (Or.inl rfl)) (fun _ _ _ _ _ => ztr) (fun _ _ _ _ _ => (zzm (ztk (c := 5) (ps := ["self", "whole"]) ⟨_, Xt.m_Held, Xt.mk_Held, zay Xt⟩ rfl (hr.mono (by decide)) rfl (ztg (zoa (zg7 Xt) rfl (hr.mono (by decide)) rfl (ztg (zzy 0) zzi)) zzi))))))
    (zt4 (zz8 rfl (zoo (T := ⟨K, ca⟩) (c := 8) Xt.cl_Book Xt.na_Book_shown zts) (zzy 0) (yfa (x := "made") (M' := []) (ix := []) rfl ⟨rfl, rfl, rfl, rfl, rfl, rfl⟩ (zz0 rfl (zzl rfl (zoo (T := ⟨K, ca⟩) (c := 8) Xt.cl_Book Xt.na_Book_pots zts) (zzy 0))) (fun _ _ _ _ _ => zto (i := 0) (by show List.Nodup (("made" :: []) : List Str); decide +kernel) rfl (Or.inl rfl)) (fun _ _ _ _ _ => ztr) (fun _ _ _ _ _ => ztj))))))))
abbrev zan : Stmt := top 57
noncomputable def zaj : Ev -> M Fl :=
  (yjp (yjq 2 (yif 1))
  (yjp (yjq 3 (yie yhx))
  (yjp (yjq 4 (yic yhx))
  (yjp (yjl (yjv (yh9 yi2 (yif 0) (eC (.int 7)))) (tgN 5) (yjp (yjq 6 (eFn 2 f__law_mixed [] (yej (yh9 yiw (yif 0) (eC (.int 7))) (yej (yif 5) yhx))))
  (yjp (yjq 7 (ye2 yge (yej (yif 2) (yej (yh9 yis (eC (.int 1)) (yh9 yi2 (yh9 yiw (yif 6) (eC (.int 7))) (yh9 oIx (eLv (yej (eC (.int 9)) (yej (yh9 yis (eC (.int 1)) (yif 1)) yhx))) (yh9 yiw (yh9 yi2 (yif 6) (eC (.int 7))) (eC (.int 6)))))) yhx))))
  (yjp (yjq 8 (yh9 yi2 (yh9 yiw (yif 6) (eC (.int 70))) (eC (.int 12))))
  (sIf (yhz (eT (yh9 oGt (yif 7) (eC (.int 0)))) (eT (yh9 (oIn true) (yif 8) (yif 4)))) (yjp (yjk (ye5 zvn (yif 4) (yej (yif 8) yhx)))
  (yjp (yjq 2 (yh9 yi8 (yif 2) (yif 7)))
  (yjq 3 (yh9 yis (yif 3) (yie (yej (yie (yej (yh9 yi2 (yh9 yiw (yif 6) (eC (.int 840))) (eC (.int 2))) (yej (yif 7) (yej (yif 8) (yej (yh9 yi2 (yh9 yiw (yif 6) (eC (.int 1680))) (eC (.int 30))) yhx))))) yhx)))))) yjm)))))
  (yjp (yjq 9 (yh9 yi2 (eFn 2 f__law_mixed [] (yej (yh9 yiw (yif 0) (eC (.int 7))) (yej (eC (.int 9)) yhx))) (yh9 yis (yif 2) (eC (.int 1)))))
  (yjo (yie (yej (yh9 yi2 (yh9 yiw (yif 0) (eC (.int 7))) (eC (.int 7))) (yej (yie (yej (yif 9) (yej (yh9 yi8 (yif 2) (yif 9)) yhx))) (yej (yif 3) yhx))))))))))
noncomputable def f__law_small_stand : List D -> M D := hide fun ds => frz (run 10 zaj ds)
theorem zaf : FnScope ["_law_cell", "_law_whole", "_law_left", "_law_ties", "_law_words", "_law_k", "_law_number", "_law_amount", "_law_word", "_law_share"] ["_law_cell", "_law_whole"] (znx zan) := ⟨rfl, rfl, rfl, by decide +kernel, rfl, by decide +kernel, by decide +kernel⟩
theorem zab : BD "_law_small_stand" "_law_small_stand" zan ["_law_cell", "_law_whole"] :=
  fun _ _ _ _ _ _ us hl => match us, hl with | [_, _], _ => rfl
theorem zad (Xt : Txt K mg ca) : OkF ⟨K, ca⟩ P w mg base 2 "_law_small_stand" ["_law_cell", "_law_whole"] f__law_small_stand :=
  OkF.hide (OkF.frz (ygh Xt.f__law_small_stand zaf fun _ _ _ _ _ _ _ hr =>
    (zov (yab (i := 2) zaf.nd rfl (Or.inl rfl) (zzy 1))
    (zov (yab (i := 3) zaf.nd rfl (Or.inl rfl) (zzx zzi))
    (zov (yab (i := 4) zaf.nd rfl (Or.inl rfl) (zzr zzi))
    (zov (zz9 zl9 rfl (zoj rfl Xt.n_range (yfc yca zxt (zzy 0) zzn)) (zto (i := 5) zaf.nd rfl (Or.inl rfl)) (zov (yab (i := 6) zaf.nd rfl (Or.inl rfl) (zoa (zdz Xt) rfl (hr.mono (by decide)) rfl (ztg (yfc zv3 zxq (zzy 0) zzn) (ztg (zzy 5) zzi))))
    (zov (yab (i := 7) zaf.nd rfl (Or.inl rfl) (zn9 (zki rfl) zre rfl Xt.n_min boot_min (ztg (zzy 2) (ztg (yfc (zv1 rfl) yju zzn (yfc yca zxt (yfc zv3 zxq (zzy 6) zzn) (ye9 yil (ydq rfl) (yfb (ztg zzn (ztg (yfc (zv1 rfl) yju zzn (zzy 1)) zzi))) (yfc zv3 zxq (yfc yca zxt (zzy 6) zzn) zzn) (fun _ _ => rfl)))) zzi))))
    (zov (yab (i := 8) zaf.nd rfl (Or.inl rfl) (yfc yca zxt (yfc zv3 zxq (zzy 6) zzn) zzn))
    (zt4 (yfi (L2.PW.pt (yah (yad ygi ydo (zzy 7) zzn (ybo _)) (zt5 (yad zfi (ydp rfl true) (zzy 8) (zzy 4) rfl)))) (zov (ztz (ztl PySem.F.plainAttrs_list PySem.F.slot_list_append PySem.F.type_list_append zlx zjw (zzy 4) (ztg (zzy 8) zzi)))
    (zov (yab (i := 2) zaf.nd rfl (Or.inl rfl) (yfc ycg zxy (zzy 2) (zzy 7)))
    (zt4 (yab (i := 3) zaf.nd rfl (Or.inl rfl) (yfc (zv1 rfl) yju (zzy 3) (zzx (ztg (zzx (ztg (yfc yca zxt (yfc zv3 zxq (zzy 6) zzn) zzn) (ztg (zzy 7) (ztg (zzy 8) (ztg (yfc yca zxt (yfc zv3 zxq (zzy 6) zzn) zzn) zzi))))) zzi))))))) zt3))))))
    (zov (yab (i := 9) zaf.nd rfl (Or.inl rfl) (yfc yca zxt (zoa (zdz Xt) rfl (hr.mono (by decide)) rfl (ztg (yfc zv3 zxq (zzy 0) zzn) (ztg zzn zzi))) (yfc (zv1 rfl) yju (zzy 2) zzn)))
    (zt4 (yaa (zzx (ztg (yfc yca zxt (yfc zv3 zxq (zzy 0) zzn) zzn) (ztg (zzx (ztg (zzy 9) (ztg (yfc ycg zxy (zzy 2) (zzy 9)) zzi))) (ztg (zzy 3) zzi)))))))))))))
abbrev zcb : Stmt := yf4 (top 53) 3
noncomputable def zbz : Ev -> M Fl :=
  (ygu [6, 8] "day" (eC (.int 1)) (yif 0))
noncomputable def f_Book_next_day : List D -> M D := hide (run 1 zbz)
theorem zbn : FnScope ["self"] ["self"] (znx zcb) := ⟨rfl, rfl, rfl, by decide +kernel, rfl, by decide +kernel, by decide +kernel⟩
theorem za7 : BD "next_day" "Book.next_day" zcb ["self"] :=
  fun _ _ _ _ _ _ us hl => match us, hl with | [_], _ => rfl
theorem zbf (Xt : Txt K mg ca) : OkA ⟨K, ca⟩ P w mg base 1 (ca 25) ["self"] f_Book_next_day :=
  OkA.hide (yby Xt.f_Book_next_day zbn fun _ _ _ _ _ _ hr =>
    (zt4 (zk1 rfl (zoo (T := ⟨K, ca⟩) (c := 6) Xt.cl_Laid Xt.na_Laid_day (zoo (T := ⟨K, ca⟩) (c := 8) Xt.cl_Book Xt.na_Book_day zts)) (zzy 0) zzn)))
abbrev zbi : Stmt := yf4 (top 53) 1
noncomputable def zba : Ev -> M Fl :=
  (sIf (yh0 (eT (eFn 3 f_is_between [] (yej (yif 1) (yej (eC (.int 0)) (yej (yh9 yi8 (ye2 yi1 (yej (eUn (yix [8] "pots") (yif 0)) yhx)) (eC (.int 1))) yhx)))))) (ydd 2 (yej (eC (.str "the book hasn't this pot")) yhx)) yjm)
noncomputable def f_Book_check_pot : List D -> M D := hide fun ds => frz (run 2 zba ds)
theorem za2 : FnScope ["self", "pot"] ["self", "pot"] (znx zbi) := ⟨rfl, rfl, rfl, by decide +kernel, rfl, by decide +kernel, by decide +kernel⟩
theorem zaq : BD "check_pot" "Book.check_pot" zbi ["self", "pot"] :=
  fun _ _ _ _ _ _ us hl => match us, hl with | [_, _], _ => rfl
theorem zaw (Xt : Txt K mg ca) : OkA ⟨K, ca⟩ P w mg base 3 (ca 23) ["self", "pot"] f_Book_check_pot :=
  OkA.hide (OkA.frz (yby Xt.f_Book_check_pot za2 fun _ _ _ _ _ _ hr =>
    (zt4 (yfi (yae (yaf (zoa (zd2 Xt) rfl (hr.mono (by decide)) rfl (ztg (zzy 1) (ztg zzn (ztg (yfc ycg zxy (zn9 zev (zxs rfl) rfl Xt.n_len PySem.boot_len (ztg (zzl rfl (zoo (T := ⟨K, ca⟩) (c := 8) Xt.cl_Book Xt.na_Book_pots zts) (zzy 0)) zzi)) zzn) zzi)))))) (zt4 (zou 2 PySem.F.excBase_ValueError rfl Xt.x_NoDeed Xt.m_NoDeed rfl rfl (ztg zzw zzi))) zt3))))
abbrev zmm : Stmt := top 12
noncomputable def zk4 : Ev -> M Fl :=
  (yjo (eFn 3 f_is_between [] (yej (yif 0) (yej (eC (.int 0)) (yej (eC (.int 59)) yhx)))))
noncomputable def f_is_word : List D -> M D := hide fun ds => frz (run 1 zk4 ds)
theorem zjp : FnScope ["thing"] ["thing"] (znx zmm) := ⟨rfl, rfl, rfl, by decide +kernel, rfl, by decide +kernel, by decide +kernel⟩
theorem zh2 : BD "is_word" "is_word" zmm ["thing"] :=
  fun _ _ _ _ _ _ us hl => match us, hl with | [_], _ => rfl
theorem zi6 (Xt : Txt K mg ca) : OkF ⟨K, ca⟩ P w mg base 3 "is_word" ["thing"] f_is_word :=
  OkF.hide (OkF.frz (ygh Xt.f_is_word zjp fun _ _ _ _ _ _ _ hr =>
    (zt4 (yaa (zoa (zd2 Xt) rfl (hr.mono (by decide)) rfl (ztg (zzy 0) (ztg zzn (ztg (zod (u := .int 59 (Xt.c_MOST_WORD).choose) rfl (Xt.c_MOST_WORD).choose_spec ⟨_, rfl⟩) zzi))))))))
abbrev zhc : Stmt := yf4 (top 53) 4
noncomputable def zgi : Ev -> M Fl :=
  (yjp (yjk (yid [(8, f_Book_check_pot)] 2 "check_pot" (yif 0) (yej (yif 1) yhx)))
  (yjp (sIf (yh0 (eT (eFn 1 f_is_word [] (yej (yif 2) yhx)))) (ydd 2 (yej (eC (.str "there is no such word")) yhx)) yjm)
  (sIf (eT (yh9 zvo (yif 2) (yh9 oIx (eUn (yix [8] "shown") (yif 0)) (yif 1)))) (ygw (eUn (yix [6, 8] "day") (yif 0)) (yh9 oIx (eUn (yix [8] "shown") (yif 0)) (yif 1)) (yif 2)) yjm)))
noncomputable def f_Book_show : List D -> M D := hide (run 3 zgi)
theorem zfu : FnScope ["self", "pot", "word"] ["self", "pot", "word"] (znx zhc) := ⟨rfl, rfl, rfl, by decide +kernel, rfl, by decide +kernel, by decide +kernel⟩
theorem zel : BD "show" "Book.show" zhc ["self", "pot", "word"] :=
  fun _ _ _ _ _ _ us hl => match us, hl with | [_, _, _], _ => rfl
theorem ze9 (Xt : Txt K mg ca) : OkA ⟨K, ca⟩ P w mg base 4 (ca 26) ["self", "pot", "word"] f_Book_show :=
  OkA.hide (yby Xt.f_Book_show zfu fun _ _ _ _ _ _ hr =>
    (zov (ztz (zzs (k := 3) (ps := ["self", "pot"]) rfl (zzy 0) (zvc (T := ⟨K, ca⟩) (c := 8) Xt.cl_Book Xt.me_Book_check_pot (zaw Xt) (by decide) ybj) (hr.mono (by decide)) (ztg (zzy 1) zzi)))
    (zov (yfi (yae (yaf (zoa (zi6 Xt) rfl (hr.mono (by decide)) rfl (ztg (zzy 2) zzi)))) (zt4 (zou 2 PySem.F.excBase_ValueError rfl Xt.x_NoDeed Xt.m_NoDeed rfl rfl (ztg zzw zzi))) zt3)
    (zt4 (yfi (yad (zl8 (hu9 hr)) zjx (zzy 2) (ye9 yil (ydq rfl) (zzl rfl (zoo (T := ⟨K, ca⟩) (c := 8) Xt.cl_Book Xt.na_Book_shown zts) (zzy 0)) (zzy 1) (fun _ _ => rfl)) rfl) (zt4 (zt1 (hu9 hr) (zzl rfl (zoo (T := ⟨K, ca⟩) (c := 6) Xt.cl_Laid Xt.na_Laid_day (zoo (T := ⟨K, ca⟩) (c := 8) Xt.cl_Book Xt.na_Book_day zts)) (zzy 0)) (ye9 yil (ydq rfl) (zzl rfl (zoo (T := ⟨K, ca⟩) (c := 8) Xt.cl_Book Xt.na_Book_shown zts) (zzy 0)) (zzy 1) (fun _ _ => rfl)) (zzy 2))) zt3)))))
abbrev zml : Stmt := top 10
noncomputable def zk3 : Ev -> M Fl :=
  (yjo (eFn 3 f_is_between [] (yej (yif 0) (yej (eC (.int 0)) (yej (eC (.int 1)) yhx)))))
noncomputable def f_is_side : List D -> M D := hide fun ds => frz (run 1 zk3 ds)
theorem zjo : FnScope ["thing"] ["thing"] (znx zml) := ⟨rfl, rfl, rfl, by decide +kernel, rfl, by decide +kernel, by decide +kernel⟩
theorem zh1 : BD "is_side" "is_side" zml ["thing"] :=
  fun _ _ _ _ _ _ us hl => match us, hl with | [_], _ => rfl
theorem zi5 (Xt : Txt K mg ca) : OkF ⟨K, ca⟩ P w mg base 3 "is_side" ["thing"] f_is_side :=
  OkF.hide (OkF.frz (ygh Xt.f_is_side zjo fun _ _ _ _ _ _ _ hr =>
    (zt4 (yaa (zoa (zd2 Xt) rfl (hr.mono (by decide)) rfl (ztg (zzy 0) (ztg zzn (ztg zzn zzi))))))))
abbrev zfr : Stmt := top 52
noncomputable def ze5 : Ev -> M Fl :=
  (sIf (yh0 (eT (eFn 1 f_is_side [] (yej (yif 0) yhx)))) (ydd 2 (yej (eC (.str "there is no such side")) yhx)) yjm)
noncomputable def f_check_side : List D -> M D := hide fun ds => frz (run 1 ze5 ds)
theorem zeg : FnScope ["side"] ["side"] (znx zfr) := ⟨rfl, rfl, rfl, by decide +kernel, rfl, by decide +kernel, by decide +kernel⟩
theorem zdm : BD "check_side" "check_side" zfr ["side"] :=
  fun _ _ _ _ _ _ us hl => match us, hl with | [_], _ => rfl
theorem zd1 (Xt : Txt K mg ca) : OkF ⟨K, ca⟩ P w mg base 4 "check_side" ["side"] f_check_side :=
  OkF.hide (OkF.frz (ygh Xt.f_check_side zeg fun _ _ _ _ _ _ _ hr =>
    (zt4 (yfi (yae (yaf (zoa (zi5 Xt) rfl (hr.mono (by decide)) rfl (ztg (zzy 0) zzi)))) (zt4 (zou 2 PySem.F.excBase_ValueError rfl Xt.x_NoDeed Xt.m_NoDeed rfl rfl (ztg zzw zzi))) zt3))))
abbrev zw5 : Stmt := top 32
noncomputable def zt7 : Ev -> M Fl :=
  (yjo (yh9 yis (ye2 yi9 (yej (yh9 oIx (yif 0) (eC (.int 1))) yhx)) (ye2 yi9 (yej (yia (eLC (yjw (yh9 oIx (yif 0) (eC (.int 2)))) [] (tgN 0) yeo (yh9 oIx (yif 0) (eC (.int 1))))) yhx))))
noncomputable def f_deals : List D -> M D := hide fun ds => frz (run 1 zt7 ds)
theorem zqz : FnScope ["one"] ["one"] (znx zw5) := ⟨rfl, rfl, rfl, by decide +kernel, rfl, by decide +kernel, by decide +kernel⟩
theorem znb : BD "deals" "deals" zw5 ["one"] :=
  fun _ _ _ _ _ _ us hl => match us, hl with | [_], _ => rfl
theorem zp8 (Xt : Txt K mg ca) : OkF ⟨K, ca⟩ P w mg base 1 "deals" ["one"] f_deals :=
  OkF.hide (OkF.frz (ygh Xt.f_deals zqz fun _ _ _ _ _ _ _ hr =>
    (zt4 (yaa (yfc (zv1 rfl) yju (zn9 (zkk rfl) (zxz rfl) rfl Xt.n_sum boot_sum (ztg (ye9 yil (ydq rfl) (zzy 0) zzn (fun _ _ => rfl)) zzi)) (zn9 (zkk rfl) (zxz rfl) rfl Xt.n_sum boot_sum (ztg (zzm (yfa (x := "tie") (M' := []) (ix := []) rfl ⟨rfl, rfl, rfl, rfl, rfl, rfl⟩ (zz0 rfl (ye9 yil (ydq rfl) (zzy 0) zzn (fun _ _ => rfl))) (fun _ _ _ _ _ => zto (i := 0) (by show List.Nodup (("tie" :: []) : List Str); decide +kernel) rfl (Or.inl rfl)) (fun _ _ _ _ _ => ztr) (fun _ _ _ _ _ => (ye9 yil (ydq rfl) (zzy 0) zzn (fun _ _ => rfl))))) zzi)))))))
abbrev zqw : Stmt := top 13
noncomputable def zow : Ev -> M Fl :=
  (yjo (eFn 3 f_is_between [] (yej (yif 0) (yej (eC (.int 0)) (yej (eC (.int 1000000)) yhx)))))
noncomputable def f_is_day : List D -> M D := hide fun ds => frz (run 1 zow ds)
theorem zmn : FnScope ["thing"] ["thing"] (znx zqw) := ⟨rfl, rfl, rfl, by decide +kernel, rfl, by decide +kernel, by decide +kernel⟩
theorem zj5 : BD "is_day" "is_day" zqw ["thing"] :=
  fun _ _ _ _ _ _ us hl => match us, hl with | [_], _ => rfl
theorem zl5 (Xt : Txt K mg ca) : OkF ⟨K, ca⟩ P w mg base 3 "is_day" ["thing"] f_is_day :=
  OkF.hide (OkF.frz (ygh Xt.f_is_day zmn fun _ _ _ _ _ _ _ hr =>
    (zt4 (yaa (zoa (zd2 Xt) rfl (hr.mono (by decide)) rfl (ztg (zzy 0) (ztg zzn (ztg (zod (u := .int 1000000 (Xt.c_MOST_DAY).choose) rfl (Xt.c_MOST_DAY).choose_spec ⟨_, rfl⟩) zzi))))))))
abbrev zhi : Stmt := top 15
noncomputable def zgo : Ev -> M Fl :=
  (yjo (eFn 3 f_is_between [] (yej (yif 0) (yej (eC (.int 1)) (yej (eC (.int 1000000000000)) yhx)))))
noncomputable def f_is_amount : List D -> M D := hide fun ds => frz (run 1 zgo ds)
theorem zf0 : FnScope ["thing"] ["thing"] (znx zhi) := ⟨rfl, rfl, rfl, by decide +kernel, rfl, by decide +kernel, by decide +kernel⟩
theorem zer : BD "is_amount" "is_amount" zhi ["thing"] :=
  fun _ _ _ _ _ _ us hl => match us, hl with | [_], _ => rfl
theorem zff (Xt : Txt K mg ca) : OkF ⟨K, ca⟩ P w mg base 3 "is_amount" ["thing"] f_is_amount :=
  OkF.hide (OkF.frz (ygh Xt.f_is_amount zf0 fun _ _ _ _ _ _ _ hr =>
    (zt4 (yaa (zoa (zd2 Xt) rfl (hr.mono (by decide)) rfl (ztg (zzy 0) (ztg zzn (ztg (zod (u := .int 1000000000000 (Xt.c_MOST_AMOUNT).choose) rfl (Xt.c_MOST_AMOUNT).choose_spec ⟨_, rfl⟩) zzi))))))))
abbrev zqy : Stmt := top 26
noncomputable def zoy : Ev -> M Fl :=
  (yjo (yh8 (eUn (yiy .tuple) (yif 0)) (yh8 (yh9 oEq (ye2 yi1 (yej (yif 0) yhx)) (eC (.int 4))) (yh8 (eFn 1 f_is_side [] (yej (yh9 oIx (yif 0) (eC (.int 0))) yhx)) (yh8 (eFn 1 f_is_amount [] (yej (yh9 oIx (yif 0) (eC (.int 1))) yhx)) (yh8 (eFn 1 f_is_word [] (yej (yh9 oIx (yif 0) (eC (.int 2))) yhx)) (eFn 1 f_is_day [] (yej (yh9 oIx (yif 0) (eC (.int 3))) yhx))))))))
noncomputable def f_is_tie : List D -> M D := hide fun ds => frz (run 1 zoy ds)
theorem zmp : FnScope ["thing"] ["thing"] (znx zqy) := ⟨rfl, rfl, rfl, by decide +kernel, rfl, by decide +kernel, by decide +kernel⟩
theorem zj7 : BD "is_tie" "is_tie" zqy ["thing"] :=
  fun _ _ _ _ _ _ us hl => match us, hl with | [_], _ => rfl
theorem zl7 (Xt : Txt K mg ca) : OkF ⟨K, ca⟩ P w mg base 4 "is_tie" ["thing"] f_is_tie :=
  OkF.hide (OkF.frz (ygh Xt.f_is_tie zmp fun _ _ _ _ _ _ _ hr =>
    (zt4 (yaa (zzj (zzo .tuple (zzy 0) rfl Xt.n_isinstance rfl Xt.n_tuple boot_tuple) (zzj (zzk (yb8 (hu9 hr)) yju (zn9 zev (zxs rfl) rfl Xt.n_len PySem.boot_len (ztg (zzy 0) zzi)) zzn (ybo _)) (zzj (zoa (zi5 Xt) rfl (hr.mono (by decide)) rfl (ztg (ye9 yil (ydq rfl) (zzy 0) zzn (fun _ _ => rfl)) zzi)) (zzj (zoa (zff Xt) rfl (hr.mono (by decide)) rfl (ztg (ye9 yil (ydq rfl) (zzy 0) zzn (fun _ _ => rfl)) zzi)) (zzj (zoa (zi6 Xt) rfl (hr.mono (by decide)) rfl (ztg (ye9 yil (ydq rfl) (zzy 0) zzn (fun _ _ => rfl)) zzi)) (zzv (zoa (zl5 Xt) rfl (hr.mono (by decide)) rfl (ztg (ye9 yil (ydq rfl) (zzy 0) zzn (fun _ _ => rfl)) zzi))))))))))))
abbrev zjh : Stmt := top 28
noncomputable def zie : Ev -> M Fl :=
  (yjp (sIf (bOr (yh0 (eT (eUn (yiy .tuple) (yif 0)))) (eT (yh9 oGt (ye2 yi1 (yej (yif 0) yhx)) (eC (.int 6))))) (yjo (eC (.bl false))) yjm)
  (yjp (sIf (yh0 (eT (ye2 yit (yej (yia (eLC (yjw (yif 0)) [] (tgN 0) yeo (eFn 1 f_is_tie [] (yej (yif 0) yhx)))) yhx)))) (yjo (eC (.bl false))) yjm)
  (yjo (yh9 oEq (eUn zvw (yia (eLC (yjw (yif 0)) [] (tgN 0) yeo (yh9 oIx (yif 0) (eC (.int 2)))))) (ye2 yi1 (yej (yif 0) yhx))))))
noncomputable def f_are_ties : List D -> M D := hide fun ds => frz (run 1 zie ds)
theorem zho : FnScope ["thing"] ["thing"] (znx zjh) := ⟨rfl, rfl, rfl, by decide +kernel, rfl, by decide +kernel, by decide +kernel⟩
theorem zf9 : BD "are_ties" "are_ties" zjh ["thing"] :=
  fun _ _ _ _ _ _ us hl => match us, hl with | [_], _ => rfl
theorem zg2 (Xt : Txt K mg ca) : OkF ⟨K, ca⟩ P w mg base 5 "are_ties" ["thing"] f_are_ties :=
  OkF.hide (OkF.frz (ygh Xt.f_are_ties zho fun _ _ _ _ _ _ _ hr =>
    (zov (yfi (L2.PW.pt (yfj (yae (yaf (zzo .tuple (zzy 0) rfl Xt.n_isinstance rfl Xt.n_tuple boot_tuple))) (yai (yad ygi ydo (zn9 zev (zxs rfl) rfl Xt.n_len PySem.boot_len (ztg (zzy 0) zzi)) (zod (u := .int 6 (Xt.c_MOST_TIES).choose) rfl (Xt.c_MOST_TIES).choose_spec ⟨_, rfl⟩) (ybo _))))) (zt4 (yaa ye8)) zt3)
    (zov (yfi (yae (yaf (zn9 (zng rfl) (zxn rfl) rfl Xt.n_all boot_all (ztg (zzm (yfa (x := "tie") (M' := []) (ix := []) rfl ⟨rfl, rfl, rfl, rfl, rfl, rfl⟩ (zz0 rfl (zzy 0)) (fun _ _ _ _ _ => zto (i := 0) (by show List.Nodup (("tie" :: []) : List Str); decide +kernel) rfl (Or.inl rfl)) (fun _ _ _ _ _ => ztr) (fun _ _ _ _ _ => (zoa (zl7 Xt) rfl (hr.mono (by decide)) rfl (ztg (zzy 0) zzi))))) zzi)))) (zt4 (yaa ye8)) zt3)
    (zt4 (yaa (zzk (yb8 (hu9 hr)) yju (zky rfl rfl rfl Xt.n_len rfl Xt.n_set (zzm (yfa (x := "tie") (M' := []) (ix := []) rfl ⟨rfl, rfl, rfl, rfl, rfl, rfl⟩ (zz0 rfl (zzy 0)) (fun _ _ _ _ _ => zto (i := 0) (by show List.Nodup (("tie" :: []) : List Str); decide +kernel) rfl (Or.inl rfl)) (fun _ _ _ _ _ => ztr) (fun _ _ _ _ _ => (ye9 yil (ydq rfl) (zzy 0) zzn (fun _ _ => rfl)))))) (zn9 zev (zxs rfl) rfl Xt.n_len PySem.boot_len (ztg (zzy 0) zzi)) (ybo _))))))))
abbrev zfq : Stmt := top 27
noncomputable def ze4 : Ev -> M Fl :=
  (yjo (yh8 (eUn (yiy .tuple) (yif 0)) (yh8 (yh9 oEq (ye2 yi1 (yej (yif 0) yhx)) (eC (.int 2))) (yh8 (eFn 3 f_is_between [] (yej (yh9 oIx (yif 0) (eC (.int 0))) (yej (eC (.int 0)) (yej (eC (.int 2000000000000)) yhx)))) (eFn 3 f_is_between [] (yej (yh9 oIx (yif 0) (eC (.int 1))) (yej (eC (.int 0)) (yej (eC (.int 2000000000000)) yhx))))))))
noncomputable def f_are_shares : List D -> M D := hide fun ds => frz (run 1 ze4 ds)
theorem zef : FnScope ["thing"] ["thing"] (znx zfq) := ⟨rfl, rfl, rfl, by decide +kernel, rfl, by decide +kernel, by decide +kernel⟩
theorem zdl : BD "are_shares" "are_shares" zfq ["thing"] :=
  fun _ _ _ _ _ _ us hl => match us, hl with | [_], _ => rfl
theorem zd0 (Xt : Txt K mg ca) : OkF ⟨K, ca⟩ P w mg base 3 "are_shares" ["thing"] f_are_shares :=
  OkF.hide (OkF.frz (ygh Xt.f_are_shares zef fun _ _ _ _ _ _ _ hr =>
    (zt4 (yaa (zzj (zzo .tuple (zzy 0) rfl Xt.n_isinstance rfl Xt.n_tuple boot_tuple) (zzj (zzk (yb8 (hu9 hr)) yju (zn9 zev (zxs rfl) rfl Xt.n_len PySem.boot_len (ztg (zzy 0) zzi)) zzn (ybo _)) (zzj (zoa (zd2 Xt) rfl (hr.mono (by decide)) rfl (ztg (ye9 yil (ydq rfl) (zzy 0) zzn (fun _ _ => rfl)) (ztg zzn (ztg (zod (u := .int 2000000000000 (Xt.c_MOST_SHARE).choose) rfl (Xt.c_MOST_SHARE).choose_spec ⟨_, rfl⟩) zzi)))) (zzv (zoa (zd2 Xt) rfl (hr.mono (by decide)) rfl (ztg (ye9 yil (ydq rfl) (zzy 0) zzn (fun _ _ => rfl)) (ztg zzn (ztg (zod (u := .int 2000000000000 (Xt.c_MOST_SHARE).choose) rfl (Xt.c_MOST_SHARE).choose_spec ⟨_, rfl⟩) zzi))))))))))))
abbrev zhj : Stmt := top 14
noncomputable def zgp : Ev -> M Fl :=
  (yjo (eFn 3 f_is_between [] (yej (yif 0) (yej (eC (.int 0)) (yej (eC (.int 1000000)) yhx)))))
noncomputable def f_is_number : List D -> M D := hide fun ds => frz (run 1 zgp ds)
theorem zf1 : FnScope ["thing"] ["thing"] (znx zhj) := ⟨rfl, rfl, rfl, by decide +kernel, rfl, by decide +kernel, by decide +kernel⟩
theorem zes : BD "is_number" "is_number" zhj ["thing"] :=
  fun _ _ _ _ _ _ us hl => match us, hl with | [_], _ => rfl
theorem zfg (Xt : Txt K mg ca) : OkF ⟨K, ca⟩ P w mg base 3 "is_number" ["thing"] f_is_number :=
  OkF.hide (OkF.frz (ygh Xt.f_is_number zf1 fun _ _ _ _ _ _ _ hr =>
    (zt4 (yaa (zoa (zd2 Xt) rfl (hr.mono (by decide)) rfl (ztg (zzy 0) (ztg zzn (ztg (zod (u := .int 1000000 (Xt.c_MOST_NUMBER).choose) rfl (Xt.c_MOST_NUMBER).choose_spec ⟨_, rfl⟩) zzi))))))))
abbrev zji : Stmt := top 29
noncomputable def zif : Ev -> M Fl :=
  (yjo (yh8 (eUn (yiy .tuple) (yif 0)) (yh8 (yh9 oEq (ye2 yi1 (yej (yif 0) yhx)) (eC (.int 3))) (yh8 (eFn 1 f_is_number [] (yej (yh9 oIx (yif 0) (eC (.int 0))) yhx)) (yh8 (eFn 1 f_are_shares [] (yej (yh9 oIx (yif 0) (eC (.int 1))) yhx)) (eFn 1 f_are_ties [] (yej (yh9 oIx (yif 0) (eC (.int 2))) yhx)))))))
noncomputable def f_is_stand : List D -> M D := hide fun ds => frz (run 1 zif ds)
theorem zhp : FnScope ["thing"] ["thing"] (znx zji) := ⟨rfl, rfl, rfl, by decide +kernel, rfl, by decide +kernel, by decide +kernel⟩
theorem zga : BD "is_stand" "is_stand" zji ["thing"] :=
  fun _ _ _ _ _ _ us hl => match us, hl with | [_], _ => rfl
theorem zg3 (Xt : Txt K mg ca) : OkF ⟨K, ca⟩ P w mg base 6 "is_stand" ["thing"] f_is_stand :=
  OkF.hide (OkF.frz (ygh Xt.f_is_stand zhp fun _ _ _ _ _ _ _ hr =>
    (zt4 (yaa (zzj (zzo .tuple (zzy 0) rfl Xt.n_isinstance rfl Xt.n_tuple boot_tuple) (zzj (zzk (yb8 (hu9 hr)) yju (zn9 zev (zxs rfl) rfl Xt.n_len PySem.boot_len (ztg (zzy 0) zzi)) zzn (ybo _)) (zzj (zoa (zfg Xt) rfl (hr.mono (by decide)) rfl (ztg (ye9 yil (ydq rfl) (zzy 0) zzn (fun _ _ => rfl)) zzi)) (zzj (zoa (zd0 Xt) rfl (hr.mono (by decide)) rfl (ztg (ye9 yil (ydq rfl) (zzy 0) zzn (fun _ _ => rfl)) zzi)) (zzv (zoa (zg2 Xt) rfl (hr.mono (by decide)) rfl (ztg (ye9 yil (ydq rfl) (zzy 0) zzn (fun _ _ => rfl)) zzi)))))))))))
abbrev zd7 : Stmt := top 33
noncomputable def zds : Ev -> M Fl :=
  (yjo (yh8 (eFn 1 f_is_stand [] (yej (yif 0) yhx)) (yh9 oEq (eFn 1 f_deals [] (yej (yif 0) yhx)) (yif 1))))
noncomputable def f_is_stand_of : List D -> M D := hide fun ds => frz (run 2 zds ds)
theorem zdd : FnScope ["thing", "coin"] ["thing", "coin"] (znx zd7) := ⟨rfl, rfl, rfl, by decide +kernel, rfl, by decide +kernel, by decide +kernel⟩
theorem zco : BD "is_stand_of" "is_stand_of" zd7 ["thing", "coin"] :=
  fun _ _ _ _ _ _ us hl => match us, hl with | [_, _], _ => rfl
theorem zc0 (Xt : Txt K mg ca) : OkF ⟨K, ca⟩ P w mg base 7 "is_stand_of" ["thing", "coin"] f_is_stand_of :=
  OkF.hide (OkF.frz (ygh Xt.f_is_stand_of zdd fun _ _ _ _ _ _ _ hr =>
    (zt4 (yaa (zzj (zoa (zg3 Xt) rfl (hr.mono (by decide)) rfl (ztg (zzy 0) zzi)) (zzv (zzk (yb8 (hu9 hr)) yju (zoa (zp8 Xt) rfl (hr.mono (by decide)) rfl (ztg (zzy 0) zzi)) (zzy 1) (ybo _))))))))
abbrev zft : Stmt := top 17
noncomputable def ze7 : Ev -> M Fl :=
  (yjo (yh9 yi8 (eC (.int 1)) (yif 0)))
noncomputable def f_other_side : List D -> M D := hide fun ds => frz (run 1 ze7 ds)
theorem zej : FnScope ["side"] ["side"] (znx zft) := ⟨rfl, rfl, rfl, by decide +kernel, rfl, by decide +kernel, by decide +kernel⟩
theorem zdo : BD "other_side" "other_side" zft ["side"] :=
  fun _ _ _ _ _ _ us hl => match us, hl with | [_], _ => rfl
theorem zd3 (Xt : Txt K mg ca) : OkF ⟨K, ca⟩ P w mg base 1 "other_side" ["side"] f_other_side :=
  OkF.hide (OkF.frz (ygh Xt.f_other_side zej fun _ _ _ _ _ _ _ hr =>
    (zt4 (yaa (yfc ycg zxy zzn (zzy 0))))))
abbrev zqx : Stmt := top 16
noncomputable def zox : Ev -> M Fl :=
  (yjo (eFn 3 f_is_between [] (yej (yif 0) (yej (eC (.int 0)) (yej (eC (.int 2)) yhx)))))
noncomputable def f_is_pot : List D -> M D := hide fun ds => frz (run 1 zox ds)
theorem zmo : FnScope ["thing"] ["thing"] (znx zqx) := ⟨rfl, rfl, rfl, by decide +kernel, rfl, by decide +kernel, by decide +kernel⟩
theorem zj6 : BD "is_pot" "is_pot" zqx ["thing"] :=
  fun _ _ _ _ _ _ us hl => match us, hl with | [_], _ => rfl
theorem zl6 (Xt : Txt K mg ca) : OkF ⟨K, ca⟩ P w mg base 3 "is_pot" ["thing"] f_is_pot :=
  OkF.hide (OkF.frz (ygh Xt.f_is_pot zmo fun _ _ _ _ _ _ _ hr =>
    (zt4 (yaa (zoa (zd2 Xt) rfl (hr.mono (by decide)) rfl (ztg (zzy 0) (ztg zzn (ztg (zod (u := .int 2 (Xt.c_MOST_POT).choose) rfl (Xt.c_MOST_POT).choose_spec ⟨_, rfl⟩) zzi))))))))
abbrev zc9 : Stmt := top 37
noncomputable def zcw : Ev -> M Fl :=
  (yjo (yh8 (yh9 oEq (ye2 yi1 (yej (yif 0) yhx)) (eC (.int 4))) (yh8 (eFn 1 f_is_pot [] (yej (yh9 oIx (yif 0) (eC (.int 1))) yhx)) (eFn 1 f_is_side [] (yej (yh9 oIx (yif 0) (eC (.int 2))) yhx)))))
noncomputable def f_is_of_a_side : List D -> M D := hide fun ds => frz (run 1 zcw ds)
theorem zck : FnScope ["thing"] ["thing"] (znx zc9) := ⟨rfl, rfl, rfl, by decide +kernel, rfl, by decide +kernel, by decide +kernel⟩
theorem zbx : BD "is_of_a_side" "is_of_a_side" zc9 ["thing"] :=
  fun _ _ _ _ _ _ us hl => match us, hl with | [_], _ => rfl
theorem zb9 (Xt : Txt K mg ca) : OkF ⟨K, ca⟩ P w mg base 4 "is_of_a_side" ["thing"] f_is_of_a_side :=
  OkF.hide (OkF.frz (ygh Xt.f_is_of_a_side zck fun _ _ _ _ _ _ _ hr =>
    (zt4 (yaa (zzj (zzk (yb8 (hu9 hr)) yju (zn9 zev (zxs rfl) rfl Xt.n_len PySem.boot_len (ztg (zzy 0) zzi)) zzn (ybo _)) (zzj (zoa (zl6 Xt) rfl (hr.mono (by decide)) rfl (ztg (ye9 yil (ydq rfl) (zzy 0) zzn (fun _ _ => rfl)) zzi)) (zzv (zoa (zi5 Xt) rfl (hr.mono (by decide)) rfl (ztg (ye9 yil (ydq rfl) (zzy 0) zzn (fun _ _ => rfl)) zzi)))))))))
abbrev zjj : Stmt := top 38
noncomputable def zig : Ev -> M Fl :=
  (yjp (sIf (bOr (yh0 (eT (eUn (yiy .tuple) (yif 0)))) (bOr (eT (yh9 oEq (ye2 yi1 (yej (yif 0) yhx)) (eC (.int 0)))) (yh0 (eT (eUn (yiy .str) (yh9 oIx (yif 0) (eC (.int 0)))))))) (yjo (eC (.bl false))) yjm)
  (yjp (sIf (eT (yh9 oEq (yh9 oIx (yif 0) (eC (.int 0))) (eC (.str "word")))) (yjo (yh8 (yh9 oEq (ye2 yi1 (yej (yif 0) yhx)) (eC (.int 2))) (eFn 1 f_is_word [] (yej (yh9 oIx (yif 0) (eC (.int 1))) yhx)))) yjm)
  (yjp (sIf (eT (yh9 oEq (yh9 oIx (yif 0) (eC (.int 0))) (eC (.str "strike")))) (yjo (yh8 (eFn 1 f_is_of_a_side [] (yej (yif 0) yhx)) (eFn 1 f_is_number [] (yej (yh9 oIx (yif 0) (eC (.int 3))) yhx)))) yjm)
  (yjp (sIf (eT (yh9 oEq (yh9 oIx (yif 0) (eC (.int 0))) (eC (.str "agree")))) (yjo (yh8 (eFn 1 f_is_of_a_side [] (yej (yif 0) yhx)) (eFn 1 f_is_stand [] (yej (yh9 oIx (yif 0) (eC (.int 3))) yhx)))) yjm)
  (yjo (eC (.bl false)))))))
noncomputable def f_is_thing : List D -> M D := hide fun ds => frz (run 1 zig ds)
theorem zhq : FnScope ["thing"] ["thing"] (znx zjj) := ⟨rfl, rfl, rfl, by decide +kernel, rfl, by decide +kernel, by decide +kernel⟩
theorem zgb : BD "is_thing" "is_thing" zjj ["thing"] :=
  fun _ _ _ _ _ _ us hl => match us, hl with | [_], _ => rfl
theorem zg4 (Xt : Txt K mg ca) : OkF ⟨K, ca⟩ P w mg base 7 "is_thing" ["thing"] f_is_thing :=
  OkF.hide (OkF.frz (ygh Xt.f_is_thing zhq fun _ _ _ _ _ _ _ hr =>
    (zov (yfi (L2.PW.pt (yfj (yae (yaf (zzo .tuple (zzy 0) rfl Xt.n_isinstance rfl Xt.n_tuple boot_tuple))) (yfj (yad (yb8 (hu9 hr)) yju (zn9 zev (zxs rfl) rfl Xt.n_len PySem.boot_len (ztg (zzy 0) zzi)) zzn (ybo _)) (yai (yae (yaf (zzo .str (ye9 yil (ydq rfl) (zzy 0) zzn (fun _ _ => rfl)) rfl Xt.n_isinstance rfl Xt.n_str boot_str))))))) (zt4 (yaa ye8)) zt3)
    (zov (yfi (yad (yb8 (hu9 hr)) yju (ye9 yil (ydq rfl) (zzy 0) zzn (fun _ _ => rfl)) zzw (ybo _)) (zt4 (yaa (zzj (zzk (yb8 (hu9 hr)) yju (zn9 zev (zxs rfl) rfl Xt.n_len PySem.boot_len (ztg (zzy 0) zzi)) zzn (ybo _)) (zzv (zoa (zi6 Xt) rfl (hr.mono (by decide)) rfl (ztg (ye9 yil (ydq rfl) (zzy 0) zzn (fun _ _ => rfl)) zzi)))))) zt3)
    (zov (yfi (yad (yb8 (hu9 hr)) yju (ye9 yil (ydq rfl) (zzy 0) zzn (fun _ _ => rfl)) zzw (ybo _)) (zt4 (yaa (zzj (zoa (zb9 Xt) rfl (hr.mono (by decide)) rfl (ztg (zzy 0) zzi)) (zzv (zoa (zfg Xt) rfl (hr.mono (by decide)) rfl (ztg (ye9 yil (ydq rfl) (zzy 0) zzn (fun _ _ => rfl)) zzi)))))) zt3)
    (zov (yfi (yad (yb8 (hu9 hr)) yju (ye9 yil (ydq rfl) (zzy 0) zzn (fun _ _ => rfl)) zzw (ybo _)) (zt4 (yaa (zzj (zoa (zb9 Xt) rfl (hr.mono (by decide)) rfl (ztg (zzy 0) zzi)) (zzv (zoa (zg3 Xt) rfl (hr.mono (by decide)) rfl (ztg (ye9 yil (ydq rfl) (zzy 0) zzn (fun _ _ => rfl)) zzi)))))) zt3)
    (zt4 (yaa ye8))))))))
abbrev zhh : Stmt := top 51
noncomputable def zgn : Ev -> M Fl :=
  (yjo (yh8 (eFn 1 f_is_thing [] (yej (yif 3) yhx)) (yh9 oEq (yif 3) (yie (yej (eC (.str "agree")) (yej (yif 0) (yej (eFn 1 f_other_side [] (yej (yif 1) yhx)) (yej (yif 2) yhx))))))))
noncomputable def f_is_agreed : List D -> M D := hide fun ds => frz (run 4 zgn ds)
theorem zfz : FnScope ["pot", "side", "stand", "agreement"] ["pot", "side", "stand", "agreement"] (znx zhh) := ⟨rfl, rfl, rfl, by decide +kernel, rfl, by decide +kernel, by decide +kernel⟩
theorem zeq : BD "is_agreed" "is_agreed" zhh ["pot", "side", "stand", "agreement"] :=
  fun _ _ _ _ _ _ us hl => match us, hl with | [_, _, _, _], _ => rfl
theorem zfe (Xt : Txt K mg ca) : OkF ⟨K, ca⟩ P w mg base 8 "is_agreed" ["pot", "side", "stand", "agreement"] f_is_agreed :=
  OkF.hide (OkF.frz (ygh Xt.f_is_agreed zfz fun _ _ _ _ _ _ _ hr =>
    (zt4 (yaa (zzj (zoa (zg4 Xt) rfl (hr.mono (by decide)) rfl (ztg (zzy 3) zzi)) (zzv (zzk (yb8 (hu9 hr)) yju (zzy 3) (zzx (ztg zzw (ztg (zzy 0) (ztg (zoa (zd3 Xt) rfl (hr.mono (by decide)) rfl (ztg (zzy 1) zzi)) (ztg (zzy 2) zzi))))) (ybo _))))))))
abbrev zw7 : Stmt := top 30
noncomputable def zt9 : Ev -> M Fl :=
  (yjp (yjq 3 (yie (yej (yif 0) (yej (yif 1) (yej (eIf (eT (yh9 yiz (yif 2) (eC .non))) (yie yhx) (yif 2)) yhx)))))
  (yjp (sIf (yh0 (eT (eFn 1 f_is_stand [] (yej (yif 3) yhx)))) (ydd 1 (yej (eC (.str "number, shares and ties make no stand")) yhx)) yjm)
  (yjo (yif 3))))
noncomputable def f_stand : List D -> M D := hide fun ds => frz (run 4 zt9 ds)
theorem zq1 : FnScope ["number", "shares", "ties", "made"] ["number", "shares", "ties"] (znx zw7) := ⟨rfl, rfl, rfl, by decide +kernel, rfl, by decide +kernel, by decide +kernel⟩
theorem znd (t : Addr) (kV doc pm : Value) (an : Option Addr) (cdv ct : Value) (s : Shared) (o : Obj) (n : Nat) (us : List Value) (h1 : s.heap.get? t = some o) (h2 : o.data = .seq ([Value.none] : List Value).toArray n) :
    ((us ++ []).length = (["number", "shares", "ties"] : List Str).length -> BindsTo s (PySem.W.fnOf "stand" "stand" (zs1 zw7) (zs2 zw7) (znx zw7) (.ref t) kV doc pm an cdv ct) ⟨us, []⟩ ((["number", "shares", "ties"] : List Str).zip (us ++ []))) /\
    ((us ++ [Value.none]).length = (["number", "shares", "ties"] : List Str).length -> BindsTo s (PySem.W.fnOf "stand" "stand" (zs1 zw7) (zs2 zw7) (znx zw7) (.ref t) kV doc pm an cdv ct) ⟨us, []⟩ ((["number", "shares", "ties"] : List Str).zip (us ++ [Value.none]))) :=
  ⟨fun hl => match us, (show us.length = 3 by simpa using hl) with | [_, _, _], _ => BindsTo.of_defaults rfl h1 h2 rfl rfl, fun hl => match us, (show us.length = 2 by simpa using hl) with | [_, _], _ => BindsTo.of_defaults rfl h1 h2 rfl rfl⟩
theorem zqa (Xt : Txt K mg ca) : OkD ⟨K, ca⟩ P w mg base 7 "stand" ["number", "shares", "ties"] [Value.none] f_stand :=
  OkD.hide (OkD.frz (yb1 Xt.f_stand zq1 fun _ _ _ _ _ _ _ hr =>
    (zov (yab (i := 3) zq1.nd rfl (Or.inl rfl) (zzx (ztg (zzy 0) (ztg (zzy 1) (ztg (zoe (yad yb9 zxr (zzy 2) zzt (ybo _)) (zzx zzi) (zzy 2)) zzi)))))
    (zov (yfi (yae (yaf (zoa (zg3 Xt) rfl (hr.mono (by decide)) rfl (ztg (zzy 3) zzi)))) (zt4 (zou 1 PySem.F.excBase_ValueError rfl Xt.x_NoStand Xt.m_NoStand rfl rfl (ztg zzw zzi))) zt3)
    (zt4 (yaa (zzy 3)))))))
abbrev zw6 : Stmt := top 31
noncomputable def zt8 : Ev -> M Fl :=
  (yjo (eFn 3 f_stand [.non] (yej (eC (.int 0)) (yej (yie (yej (yif 0) (yej (yif 1) yhx))) yhx))))
noncomputable def f_first : List D -> M D := hide fun ds => frz (run 2 zt8 ds)
theorem zq0 : FnScope ["left", "right"] ["left", "right"] (znx zw6) := ⟨rfl, rfl, rfl, by decide +kernel, rfl, by decide +kernel, by decide +kernel⟩
theorem znc : BD "first" "first" zw6 ["left", "right"] :=
  fun _ _ _ _ _ _ us hl => match us, hl with | [_, _], _ => rfl
theorem zp9 (Xt : Txt K mg ca) : OkF ⟨K, ca⟩ P w mg base 8 "first" ["left", "right"] f_first :=
  OkF.hide (OkF.frz (ygh Xt.f_first zq0 fun _ _ _ _ _ _ _ hr =>
    (zt4 (yaa (zkw (zqa Xt) rfl (hr.mono (by decide)) rfl zrv zqu (ztg zzn (ztg (zzx (ztg (zzy 0) (ztg (zzy 1) zzi))) zzi)))))))
abbrev zc5 : Stmt := yf4 (top 53) 5
noncomputable def zcs : Ev -> M Fl :=
  (yjp (sIf (yh0 (eT (eUn (yi0 (yij [(5, true), (6, false), (7, false), (8, false)])) (yh9 oIx (eUn (yix [8] "claims") (yif 0)) (yif 1))))) (yjo (eC (.bl false))) yjm)
  (yjp (yjq 5 (yh9 oIx (eUn (yix [8] "pots") (yif 0)) (yif 1)))
  (yjo (eOr (yh9 oEq (yif 3) (eFn 2 f_first [] (yej (yh9 oIx (yif 5) (eC (.int 2))) (yej (yh9 oIx (yif 5) (eC (.int 3))) yhx)))) (eFn 4 f_is_agreed [] (yej (yif 1) (yej (yif 2) (yej (yif 3) (yej (yif 4) yhx)))))))))
noncomputable def f_Book_may_lie : List D -> M D := hide fun ds => frz (run 6 zcs ds)
theorem zcg : FnScope ["self", "pot", "side", "stand", "agreement", "made"] ["self", "pot", "side", "stand", "agreement"] (znx zc5) := ⟨rfl, rfl, rfl, by decide +kernel, rfl, by decide +kernel, by decide +kernel⟩
theorem zbt : BD "may_lie" "Book.may_lie" zc5 ["self", "pot", "side", "stand", "agreement"] :=
  fun _ _ _ _ _ _ us hl => match us, hl with | [_, _, _, _, _], _ => rfl
theorem zb5 (Xt : Txt K mg ca) : OkA ⟨K, ca⟩ P w mg base 9 (ca 27) ["self", "pot", "side", "stand", "agreement"] f_Book_may_lie :=
  OkA.hide (OkA.frz (yby Xt.f_Book_may_lie zcg fun _ _ _ _ _ _ hr =>
    (zov (yfi (yae (yaf (zzp (l := [(5, true), (6, false), (7, false), (8, false)]) rfl (ye9 yil (ydq rfl) (zzl rfl (zoo (T := ⟨K, ca⟩) (c := 8) Xt.cl_Book Xt.na_Book_claims zts) (zzy 0)) (zzy 1) (fun _ _ => rfl)) rfl Xt.n_isinstance rfl (by decide) Xt.m_Held (zuo Xt.ik_Held Xt.io_Held_Held (zuo Xt.ik_Laid Xt.io_Laid_Held (zuo Xt.ik_Taken Xt.io_Taken_Held (zuo Xt.ik_Book Xt.io_Book_Held yar))))))) (zt4 (yaa ye8)) zt3)
    (zov (yab (i := 5) zcg.nd rfl (Or.inl rfl) (ye9 yil (ydq rfl) (zzl rfl (zoo (T := ⟨K, ca⟩) (c := 8) Xt.cl_Book Xt.na_Book_pots zts) (zzy 0)) (zzy 1) (fun _ _ => rfl)))
    (zt4 (yaa (fe_or (zzk (yb8 (hu9 hr)) yju (zzy 3) (zoa (zp9 Xt) rfl (hr.mono (by decide)) rfl (ztg (ye9 yil (ydq rfl) (zzy 5) zzn (fun _ _ => rfl)) (ztg (ye9 yil (ydq rfl) (zzy 5) zzn (fun _ _ => rfl)) zzi))) (ybo _)) (zzv (zoa (zfe Xt) rfl (hr.mono (by decide)) rfl (ztg (zzy 1) (ztg (zzy 2) (ztg (zzy 3) (ztg (zzy 4) zzi)))))))))))))
abbrev zcc : Stmt := yf4 (top 43) 0
noncomputable def zb0 : Ev -> M Fl :=
  (yjp (yjk (eFn 2 f_Claim___init__ [] (yej (yif 0) (yej (yif 1) yhx))))
  (yjp (yjn [6, 7] "side" (yif 2) (yif 0))
  (yjp (yjn [6] "stand" (yif 3) (yif 0))
  (yjp (yjn [6, 8] "day" (yif 4) (yif 0))
  (yjn [6] "wait" (yif 5) (yif 0))))))
noncomputable def f_Laid___init__ : List D -> M D := hide (run 6 zb0)
theorem zbo : FnScope ["self", "whole", "side", "stand", "day", "wait"] ["self", "whole", "side", "stand", "day", "wait"] (znx zcc) := ⟨rfl, rfl, rfl, by decide +kernel, rfl, by decide +kernel, by decide +kernel⟩
theorem za8 : BD "__init__" "Laid.__init__" zcc ["self", "whole", "side", "stand", "day", "wait"] :=
  fun _ _ _ _ _ _ us hl => match us, hl with | [_, _, _, _, _, _], _ => rfl
theorem zbg (Xt : Txt K mg ca) : OkA ⟨K, ca⟩ P w mg base 3 (ca 13) ["self", "whole", "side", "stand", "day", "wait"] f_Laid___init__ :=
  OkA.hide (yby Xt.f_Laid___init__ zbo fun _ _ _ _ _ _ hr =>
    (zov (ztz (zoh (c := 4) ⟨Xt.m_Claim, Xt.us_Claim___init__, _, _, Xt.ur_Claim___init__, Xt.uf_Claim___init__, Xt.uk_Claim___init__, zay Xt⟩ rfl (hr.mono (by decide)) rfl (ztg (zzy 0) (ztg (zzy 1) zzi))))
    (zov (zz8 rfl (zoo (T := ⟨K, ca⟩) (c := 6) Xt.cl_Laid Xt.na_Laid_side (zoo (T := ⟨K, ca⟩) (c := 7) Xt.cl_Taken Xt.na_Taken_side zts)) (zzy 0) (zzy 2))
    (zov (zz8 rfl (zoo (T := ⟨K, ca⟩) (c := 6) Xt.cl_Laid Xt.na_Laid_stand zts) (zzy 0) (zzy 3))
    (zov (zz8 rfl (zoo (T := ⟨K, ca⟩) (c := 6) Xt.cl_Laid Xt.na_Laid_day (zoo (T := ⟨K, ca⟩) (c := 8) Xt.cl_Book Xt.na_Book_day zts)) (zzy 0) (zzy 4))
    (zt4 (zz8 rfl (zoo (T := ⟨K, ca⟩) (c := 6) Xt.cl_Laid Xt.na_Laid_wait zts) (zzy 0) (zzy 5))))))))
abbrev zje : Stmt := yf4 (top 53) 6
noncomputable def zib : Ev -> M Fl :=
  (yjp (yjk (yid [(8, f_Book_check_pot)] 2 "check_pot" (yif 0) (yej (yif 1) yhx)))
  (yjp (yjk (eFn 1 f_check_side [] (yej (yif 2) yhx)))
  (yjp (yjq 5 (yh9 oIx (eUn (yix [8] "pots") (yif 0)) (yif 1)))
  (yjp (sIf (yh0 (eT (eFn 2 f_is_stand_of [] (yej (yif 3) (yej (eFn 1 f_whole_of [] (yej (yif 5) yhx)) yhx))))) (ydd 1 (yej (eC (.str "this is no stand of the pot")) yhx)) yjm)
  (yjp (sIf (yh0 (eT (yid [(8, f_Book_may_lie)] 5 "may_lie" (yif 0) (yej (yif 1) (yej (yif 2) (yej (yif 3) (yej (yif 4) yhx))))))) (ydd 2 (yej (eC (.str "this stand may not be laid down")) yhx)) yjm)
  (ygx (yia (ye4 6 6 f_Laid___init__ (yej (eFn 1 f_whole_of [] (yej (yif 5) yhx)) (yej (yif 2) (yej (yif 3) (yej (eUn (yix [6, 8] "day") (yif 0)) (yej (yh9 oIx (yif 5) (eC (.int 4))) yhx))))))) (eUn (yix [8] "claims") (yif 0)) (yif 1)))))))
noncomputable def f_Book_lay : List D -> M D := hide (run 6 zib)
theorem zhl : FnScope ["self", "pot", "side", "stand", "agreement", "made"] ["self", "pot", "side", "stand", "agreement"] (znx zje) := ⟨rfl, rfl, rfl, by decide +kernel, rfl, by decide +kernel, by decide +kernel⟩
theorem zf6 (t : Addr) (kV doc pm : Value) (an : Option Addr) (cdv ct : Value) (s : Shared) (o : Obj) (n : Nat) (us : List Value) (h1 : s.heap.get? t = some o) (h2 : o.data = .seq ([Value.none] : List Value).toArray n) :
    ((us ++ []).length = (["self", "pot", "side", "stand", "agreement"] : List Str).length -> BindsTo s (PySem.W.fnOf "lay" "Book.lay" (zs1 zje) (zs2 zje) (znx zje) (.ref t) kV doc pm an cdv ct) ⟨us, []⟩ ((["self", "pot", "side", "stand", "agreement"] : List Str).zip (us ++ []))) /\
    ((us ++ [Value.none]).length = (["self", "pot", "side", "stand", "agreement"] : List Str).length -> BindsTo s (PySem.W.fnOf "lay" "Book.lay" (zs1 zje) (zs2 zje) (znx zje) (.ref t) kV doc pm an cdv ct) ⟨us, []⟩ ((["self", "pot", "side", "stand", "agreement"] : List Str).zip (us ++ [Value.none]))) :=
  ⟨fun hl => match us, (show us.length = 5 by simpa using hl) with | [_, _, _, _, _], _ => BindsTo.of_defaults rfl h1 h2 rfl rfl, fun hl => match us, (show us.length = 4 by simpa using hl) with | [_, _, _, _], _ => BindsTo.of_defaults rfl h1 h2 rfl rfl⟩
theorem zgz (Xt : Txt K mg ca) : OkB ⟨K, ca⟩ P w mg base 10 (ca 28) ["self", "pot", "side", "stand", "agreement"] [Value.none] f_Book_lay :=
  OkB.hide (ybz Xt.f_Book_lay zhl fun _ _ _ _ _ _ hr =>
    (zov (ztz (zzs (k := 3) (ps := ["self", "pot"]) rfl (zzy 0) (zvc (T := ⟨K, ca⟩) (c := 8) Xt.cl_Book Xt.me_Book_check_pot (zaw Xt) (by decide) ybj) (hr.mono (by decide)) (ztg (zzy 1) zzi)))
    (zov (ztz (zoa (zd1 Xt) rfl (hr.mono (by decide)) rfl (ztg (zzy 2) zzi)))
    (zov (yab (i := 5) zhl.nd rfl (Or.inl rfl) (ye9 yil (ydq rfl) (zzl rfl (zoo (T := ⟨K, ca⟩) (c := 8) Xt.cl_Book Xt.na_Book_pots zts) (zzy 0)) (zzy 1) (fun _ _ => rfl)))
    (zov (yfi (yae (yaf (zoa (zc0 Xt) rfl (hr.mono (by decide)) rfl (ztg (zzy 3) (ztg (zoa (zg7 Xt) rfl (hr.mono (by decide)) rfl (ztg (zzy 5) zzi)) zzi))))) (zt4 (zou 1 PySem.F.excBase_ValueError rfl Xt.x_NoStand Xt.m_NoStand rfl rfl (ztg zzw zzi))) zt3)
    (zov (yfi (yae (yaf (zzs (k := 9) (ps := ["self", "pot", "side", "stand", "agreement"]) rfl (zzy 0) (zvc (T := ⟨K, ca⟩) (c := 8) Xt.cl_Book Xt.me_Book_may_lie (zb5 Xt) (by decide) ybj) (hr.mono (by decide)) (ztg (zzy 1) (ztg (zzy 2) (ztg (zzy 3) (ztg (zzy 4) zzi))))))) (zt4 (zou 2 PySem.F.excBase_ValueError rfl Xt.x_NoDeed Xt.m_NoDeed rfl rfl (ztg zzw zzi))) zt3)
    (zt4 (zt2 (zzm (ztk (c := 6) (ps := ["self", "whole", "side", "stand", "day", "wait"]) ⟨_, Xt.m_Laid, Xt.mk_Laid, zbg Xt⟩ rfl (hr.mono (by decide)) rfl (ztg (zoa (zg7 Xt) rfl (hr.mono (by decide)) rfl (ztg (zzy 5) zzi)) (ztg (zzy 2) (ztg (zzy 3) (ztg (zzl rfl (zoo (T := ⟨K, ca⟩) (c := 6) Xt.cl_Laid Xt.na_Laid_day (zoo (T := ⟨K, ca⟩) (c := 8) Xt.cl_Book Xt.na_Book_day zts)) (zzy 0)) (ztg (ye9 yil (ydq rfl) (zzy 5) zzn (fun _ _ => rfl)) zzi))))))) (zzl rfl (zoo (T := ⟨K, ca⟩) (c := 8) Xt.cl_Book Xt.na_Book_claims zts) (zzy 0)) (zzy 1)))))))))
abbrev zhe : Stmt := yf4 (top 42) 0
noncomputable def zgk : Ev -> M Fl :=
  (yjo (yie (yej (eC (.str "held")) yhx)))
noncomputable def f_Held_told : List D -> M D := hide fun ds => frz (run 1 zgk ds)
theorem zfw : FnScope ["self"] ["self"] (znx zhe) := ⟨rfl, rfl, rfl, by decide +kernel, rfl, by decide +kernel, by decide +kernel⟩
theorem zen : BD "told" "Held.told" zhe ["self"] :=
  fun _ _ _ _ _ _ us hl => match us, hl with | [_], _ => rfl
theorem zfb (Xt : Txt K mg ca) : OkA ⟨K, ca⟩ P w mg base 1 (ca 10) ["self"] f_Held_told :=
  OkA.hide (OkA.frz (yby Xt.f_Held_told zfw fun _ _ _ _ _ _ hr =>
    (zt4 (yaa (zzx (ztg zzw zzi))))))
abbrev zhf : Stmt := yf4 (top 43) 1
noncomputable def zgl : Ev -> M Fl :=
  (yjo (yie (yej (eC (.str "laid")) (yej (eUn (yix [6, 7] "side") (yif 0)) (yej (eUn (yix [6] "stand") (yif 0)) (yej (eUn (yix [6, 8] "day") (yif 0)) yhx))))))
noncomputable def f_Laid_told : List D -> M D := hide fun ds => frz (run 1 zgl ds)
theorem zfx : FnScope ["self"] ["self"] (znx zhf) := ⟨rfl, rfl, rfl, by decide +kernel, rfl, by decide +kernel, by decide +kernel⟩
theorem zeo : BD "told" "Laid.told" zhf ["self"] :=
  fun _ _ _ _ _ _ us hl => match us, hl with | [_], _ => rfl
theorem zfc (Xt : Txt K mg ca) : OkA ⟨K, ca⟩ P w mg base 1 (ca 14) ["self"] f_Laid_told :=
  OkA.hide (OkA.frz (yby Xt.f_Laid_told zfx fun _ _ _ _ _ _ hr =>
    (zt4 (yaa (zzx (ztg zzw (ztg (zzl rfl (zoo (T := ⟨K, ca⟩) (c := 6) Xt.cl_Laid Xt.na_Laid_side (zoo (T := ⟨K, ca⟩) (c := 7) Xt.cl_Taken Xt.na_Taken_side zts)) (zzy 0)) (ztg (zzl rfl (zoo (T := ⟨K, ca⟩) (c := 6) Xt.cl_Laid Xt.na_Laid_stand zts) (zzy 0)) (ztg (zzl rfl (zoo (T := ⟨K, ca⟩) (c := 6) Xt.cl_Laid Xt.na_Laid_day (zoo (T := ⟨K, ca⟩) (c := 8) Xt.cl_Book Xt.na_Book_day zts)) (zzy 0)) zzi)))))))))
abbrev zfo : Stmt := yf4 (top 44) 1
noncomputable def ze2 : Ev -> M Fl :=
  (yjo (yie (yej (eC (.str "taken")) (yej (eUn (yix [6, 7] "side") (yif 0)) yhx))))
noncomputable def f_Taken_told : List D -> M D := hide fun ds => frz (run 1 ze2 ds)
theorem zed : FnScope ["self"] ["self"] (znx zfo) := ⟨rfl, rfl, rfl, by decide +kernel, rfl, by decide +kernel, by decide +kernel⟩
theorem zdj : BD "told" "Taken.told" zfo ["self"] :=
  fun _ _ _ _ _ _ us hl => match us, hl with | [_], _ => rfl
theorem zdy (Xt : Txt K mg ca) : OkA ⟨K, ca⟩ P w mg base 1 (ca 19) ["self"] f_Taken_told :=
  OkA.hide (OkA.frz (yby Xt.f_Taken_told zed fun _ _ _ _ _ _ hr =>
    (zt4 (yaa (zzx (ztg zzw (ztg (zzl rfl (zoo (T := ⟨K, ca⟩) (c := 6) Xt.cl_Laid Xt.na_Laid_side (zoo (T := ⟨K, ca⟩) (c := 7) Xt.cl_Taken Xt.na_Taken_side zts)) (zzy 0)) zzi)))))))
abbrev zhd : Stmt := yf4 (top 53) 8
noncomputable def zgj : Ev -> M Fl :=
  (yjp (yjk (yid [(8, f_Book_check_pot)] 2 "check_pot" (yif 0) (yej (yif 1) yhx)))
  (yjo (yid [(5, f_Held_told), (6, f_Laid_told), (7, f_Taken_told)] 1 "told" (yh9 oIx (eUn (yix [8] "claims") (yif 0)) (yif 1)) yhx)))
noncomputable def f_Book_told : List D -> M D := hide fun ds => frz (run 2 zgj ds)
theorem zfv : FnScope ["self", "pot"] ["self", "pot"] (znx zhd) := ⟨rfl, rfl, rfl, by decide +kernel, rfl, by decide +kernel, by decide +kernel⟩
theorem zem : BD "told" "Book.told" zhd ["self", "pot"] :=
  fun _ _ _ _ _ _ us hl => match us, hl with | [_, _], _ => rfl
theorem zfa (Xt : Txt K mg ca) : OkA ⟨K, ca⟩ P w mg base 4 (ca 30) ["self", "pot"] f_Book_told :=
  OkA.hide (OkA.frz (yby Xt.f_Book_told zfv fun _ _ _ _ _ _ hr =>
    (zov (ztz (zzs (k := 3) (ps := ["self", "pot"]) rfl (zzy 0) (zvc (T := ⟨K, ca⟩) (c := 8) Xt.cl_Book Xt.me_Book_check_pot (zaw Xt) (by decide) ybj) (hr.mono (by decide)) (ztg (zzy 1) zzi)))
    (zt4 (yaa (ztm (k := 1) (ps := ["self"]) rfl (ye9 yil (ydq rfl) (zzl rfl (zoo (T := ⟨K, ca⟩) (c := 8) Xt.cl_Book Xt.na_Book_claims zts) (zzy 0)) (zzy 1) (fun _ _ => rfl)) (zvc (T := ⟨K, ca⟩) (c := 5) Xt.cl_Held Xt.me_Held_told (zfb Xt) (by decide) (zvc (T := ⟨K, ca⟩) (c := 6) Xt.cl_Laid Xt.me_Laid_told (zfc Xt) (by decide) (zvc (T := ⟨K, ca⟩) (c := 7) Xt.cl_Taken Xt.me_Taken_told (zdy Xt) (by decide) ybj))) (hr.mono (by decide))))))))
abbrev za0 : Stmt := yf4 (top 42) 2
noncomputable def zau : Ev -> M Fl :=
  (yjo (eC (.bl false)))
noncomputable def f_Held_may_strike : List D -> M D := hide fun ds => frz (run 5 zau ds)
theorem zao : FnScope ["self", "pot", "side", "day", "thing"] ["self", "pot", "side", "day", "thing"] (znx za0) := ⟨rfl, rfl, rfl, by decide +kernel, rfl, by decide +kernel, by decide +kernel⟩
theorem zag : BD "may_strike" "Held.may_strike" za0 ["self", "pot", "side", "day", "thing"] :=
  fun _ _ _ _ _ _ us hl => match us, hl with | [_, _, _, _, _], _ => rfl
theorem zak (Xt : Txt K mg ca) : OkA ⟨K, ca⟩ P w mg base 1 (ca 12) ["self", "pot", "side", "day", "thing"] f_Held_may_strike :=
  OkA.hide (OkA.frz (yby Xt.f_Held_may_strike zao fun _ _ _ _ _ _ hr =>
    (zt4 (yaa ye8))))
abbrev zfn : Stmt := yf4 (top 43) 2
noncomputable def ze1 : Ev -> M Fl :=
  (yjo (yh9 oLt (yif 1) (yh9 yis (eUn (yix [6, 8] "day") (yif 0)) (eUn (yix [6] "wait") (yif 0)))))
noncomputable def f_Laid_waits : List D -> M D := hide fun ds => frz (run 2 ze1 ds)
theorem zec : FnScope ["self", "day"] ["self", "day"] (znx zfn) := ⟨rfl, rfl, rfl, by decide +kernel, rfl, by decide +kernel, by decide +kernel⟩
theorem zdi : BD "waits" "Laid.waits" zfn ["self", "day"] :=
  fun _ _ _ _ _ _ us hl => match us, hl with | [_, _], _ => rfl
theorem zdx (Xt : Txt K mg ca) : OkA ⟨K, ca⟩ P w mg base 1 (ca 15) ["self", "day"] f_Laid_waits :=
  OkA.hide (OkA.frz (yby Xt.f_Laid_waits zec fun _ _ _ _ _ _ hr =>
    (zt4 (yaa (zzk ygk yds (zzy 1) (yfc (zv1 rfl) yju (zzl rfl (zoo (T := ⟨K, ca⟩) (c := 6) Xt.cl_Laid Xt.na_Laid_day (zoo (T := ⟨K, ca⟩) (c := 8) Xt.cl_Book Xt.na_Book_day zts)) (zzy 0)) (zzl rfl (zoo (T := ⟨K, ca⟩) (c := 6) Xt.cl_Laid Xt.na_Laid_wait zts) (zzy 0))) (ybo _))))))
abbrev za1 : Stmt := yf4 (top 43) 4
noncomputable def zav : Ev -> M Fl :=
  (yjp (sIf (bOr (eT (yh9 oNe (yif 2) (eFn 1 f_other_side [] (yej (eUn (yix [6, 7] "side") (yif 0)) yhx)))) (yh0 (eT (yid [(6, f_Laid_waits)] 2 "waits" (yif 0) (yej (yif 3) yhx))))) (yjo (eC (.bl false))) yjm)
  (yjo (yh8 (eFn 1 f_is_thing [] (yej (yif 4) yhx)) (yh9 oEq (yif 4) (yie (yej (eC (.str "strike")) (yej (yif 1) (yej (eUn (yix [6, 7] "side") (yif 0)) (yej (yh9 oIx (eUn (yix [6] "stand") (yif 0)) (eC (.int 0))) yhx)))))))))
noncomputable def f_Laid_may_strike : List D -> M D := hide fun ds => frz (run 5 zav ds)
theorem zap : FnScope ["self", "pot", "side", "day", "thing"] ["self", "pot", "side", "day", "thing"] (znx za1) := ⟨rfl, rfl, rfl, by decide +kernel, rfl, by decide +kernel, by decide +kernel⟩
theorem zah : BD "may_strike" "Laid.may_strike" za1 ["self", "pot", "side", "day", "thing"] :=
  fun _ _ _ _ _ _ us hl => match us, hl with | [_, _, _, _, _], _ => rfl
theorem zal (Xt : Txt K mg ca) : OkA ⟨K, ca⟩ P w mg base 8 (ca 17) ["self", "pot", "side", "day", "thing"] f_Laid_may_strike :=
  OkA.hide (OkA.frz (yby Xt.f_Laid_may_strike zap fun _ _ _ _ _ _ hr =>
    (zov (yfi (L2.PW.pt (yfj (yad (ycc (hu9 hr)) yju (zzy 2) (zoa (zd3 Xt) rfl (hr.mono (by decide)) rfl (ztg (zzl rfl (zoo (T := ⟨K, ca⟩) (c := 6) Xt.cl_Laid Xt.na_Laid_side (zoo (T := ⟨K, ca⟩) (c := 7) Xt.cl_Taken Xt.na_Taken_side zts)) (zzy 0)) zzi)) (ybo _)) (yai (yae (yaf (zzs (k := 1) (ps := ["self", "day"]) rfl (zzy 0) (zvc (T := ⟨K, ca⟩) (c := 6) Xt.cl_Laid Xt.me_Laid_waits (zdx Xt) (by decide) ybj) (hr.mono (by decide)) (ztg (zzy 3) zzi))))))) (zt4 (yaa ye8)) zt3)
    (zt4 (yaa (zzj (zoa (zg4 Xt) rfl (hr.mono (by decide)) rfl (ztg (zzy 4) zzi)) (zzv (zzk (yb8 (hu9 hr)) yju (zzy 4) (zzx (ztg zzw (ztg (zzy 1) (ztg (zzl rfl (zoo (T := ⟨K, ca⟩) (c := 6) Xt.cl_Laid Xt.na_Laid_side (zoo (T := ⟨K, ca⟩) (c := 7) Xt.cl_Taken Xt.na_Taken_side zts)) (zzy 0)) (ztg (ye9 yil (ydq rfl) (zzl rfl (zoo (T := ⟨K, ca⟩) (c := 6) Xt.cl_Laid Xt.na_Laid_stand zts) (zzy 0)) zzn (fun _ _ => rfl)) zzi))))) (ybo _)))))))))
abbrev zam : Stmt := yf4 (top 44) 3
noncomputable def zai : Ev -> M Fl :=
  (yjo (eC (.bl false)))
noncomputable def f_Taken_may_strike : List D -> M D := hide fun ds => frz (run 5 zai ds)
theorem zae : FnScope ["self", "pot", "side", "day", "thing"] ["self", "pot", "side", "day", "thing"] (znx zam) := ⟨rfl, rfl, rfl, by decide +kernel, rfl, by decide +kernel, by decide +kernel⟩
theorem zaa : BD "may_strike" "Taken.may_strike" zam ["self", "pot", "side", "day", "thing"] :=
  fun _ _ _ _ _ _ us hl => match us, hl with | [_, _, _, _, _], _ => rfl
theorem zac (Xt : Txt K mg ca) : OkA ⟨K, ca⟩ P w mg base 1 (ca 21) ["self", "pot", "side", "day", "thing"] f_Taken_may_strike :=
  OkA.hide (OkA.frz (yby Xt.f_Taken_may_strike zae fun _ _ _ _ _ _ hr =>
    (zt4 (yaa ye8))))
abbrev zbl : Stmt := yf4 (top 44) 0
noncomputable def zbd : Ev -> M Fl :=
  (yjp (yjk (eFn 2 f_Claim___init__ [] (yej (yif 0) (yej (yif 1) yhx))))
  (yjn [6, 7] "side" (yif 2) (yif 0)))
noncomputable def f_Taken___init__ : List D -> M D := hide (run 3 zbd)
theorem za5 : FnScope ["self", "whole", "side"] ["self", "whole", "side"] (znx zbl) := ⟨rfl, rfl, rfl, by decide +kernel, rfl, by decide +kernel, by decide +kernel⟩
theorem zat : BD "__init__" "Taken.__init__" zbl ["self", "whole", "side"] :=
  fun _ _ _ _ _ _ us hl => match us, hl with | [_, _, _], _ => rfl
theorem zaz (Xt : Txt K mg ca) : OkA ⟨K, ca⟩ P w mg base 3 (ca 18) ["self", "whole", "side"] f_Taken___init__ :=
  OkA.hide (yby Xt.f_Taken___init__ za5 fun _ _ _ _ _ _ hr =>
    (zov (ztz (zoh (c := 4) ⟨Xt.m_Claim, Xt.us_Claim___init__, _, _, Xt.ur_Claim___init__, Xt.uf_Claim___init__, Xt.uk_Claim___init__, zay Xt⟩ rfl (hr.mono (by decide)) rfl (ztg (zzy 0) (ztg (zzy 1) zzi))))
    (zt4 (zz8 rfl (zoo (T := ⟨K, ca⟩) (c := 6) Xt.cl_Laid Xt.na_Laid_side (zoo (T := ⟨K, ca⟩) (c := 7) Xt.cl_Taken Xt.na_Taken_side zts)) (zzy 0) (zzy 2)))))
abbrev zd5 : Stmt := yf4 (top 53) 7
noncomputable def zdq : Ev -> M Fl :=
  (yjp (yjk (yid [(8, f_Book_check_pot)] 2 "check_pot" (yif 0) (yej (yif 1) yhx)))
  (yjp (yjk (eFn 1 f_check_side [] (yej (yif 2) yhx)))
  (yjp (sIf (yh0 (eT (yid [(5, f_Held_may_strike), (6, f_Laid_may_strike), (7, f_Taken_may_strike)] 5 "may_strike" (yh9 oIx (eUn (yix [8] "claims") (yif 0)) (yif 1)) (yej (yif 1) (yej (yif 2) (yej (eUn (yix [6, 8] "day") (yif 0)) (yej (yif 3) yhx))))))) (ydd 2 (yej (eC (.str "there is nothing to strike with this")) yhx)) yjm)
  (ygx (yia (ye4 7 3 f_Taken___init__ (yej (eFn 1 f_whole_of [] (yej (yh9 oIx (eUn (yix [8] "pots") (yif 0)) (yif 1)) yhx)) (yej (yif 2) yhx)))) (eUn (yix [8] "claims") (yif 0)) (yif 1)))))
noncomputable def f_Book_strike : List D -> M D := hide (run 4 zdq)
theorem zdb : FnScope ["self", "pot", "side", "thing"] ["self", "pot", "side", "thing"] (znx zd5) := ⟨rfl, rfl, rfl, by decide +kernel, rfl, by decide +kernel, by decide +kernel⟩
theorem zcm : BD "strike" "Book.strike" zd5 ["self", "pot", "side", "thing"] :=
  fun _ _ _ _ _ _ us hl => match us, hl with | [_, _, _, _], _ => rfl
theorem zcy (Xt : Txt K mg ca) : OkA ⟨K, ca⟩ P w mg base 9 (ca 29) ["self", "pot", "side", "thing"] f_Book_strike :=
  OkA.hide (yby Xt.f_Book_strike zdb fun _ _ _ _ _ _ hr =>
    (zov (ztz (zzs (k := 3) (ps := ["self", "pot"]) rfl (zzy 0) (zvc (T := ⟨K, ca⟩) (c := 8) Xt.cl_Book Xt.me_Book_check_pot (zaw Xt) (by decide) ybj) (hr.mono (by decide)) (ztg (zzy 1) zzi)))
    (zov (ztz (zoa (zd1 Xt) rfl (hr.mono (by decide)) rfl (ztg (zzy 2) zzi)))
    (zov (yfi (yae (yaf (zzs (k := 8) (ps := ["self", "pot", "side", "day", "thing"]) rfl (ye9 yil (ydq rfl) (zzl rfl (zoo (T := ⟨K, ca⟩) (c := 8) Xt.cl_Book Xt.na_Book_claims zts) (zzy 0)) (zzy 1) (fun _ _ => rfl)) (zvc (T := ⟨K, ca⟩) (c := 5) Xt.cl_Held Xt.me_Held_may_strike (zak Xt) (by decide) (zvc (T := ⟨K, ca⟩) (c := 6) Xt.cl_Laid Xt.me_Laid_may_strike (zal Xt) (by decide) (zvc (T := ⟨K, ca⟩) (c := 7) Xt.cl_Taken Xt.me_Taken_may_strike (zac Xt) (by decide) ybj))) (hr.mono (by decide)) (ztg (zzy 1) (ztg (zzy 2) (ztg (zzl rfl (zoo (T := ⟨K, ca⟩) (c := 6) Xt.cl_Laid Xt.na_Laid_day (zoo (T := ⟨K, ca⟩) (c := 8) Xt.cl_Book Xt.na_Book_day zts)) (zzy 0)) (ztg (zzy 3) zzi))))))) (zt4 (zou 2 PySem.F.excBase_ValueError rfl Xt.x_NoDeed Xt.m_NoDeed rfl rfl (ztg zzw zzi))) zt3)
    (zt4 (zt2 (zzm (ztk (c := 7) (ps := ["self", "whole", "side"]) ⟨_, Xt.m_Taken, Xt.mk_Taken, zaz Xt⟩ rfl (hr.mono (by decide)) rfl (ztg (zoa (zg7 Xt) rfl (hr.mono (by decide)) rfl (ztg (ye9 yil (ydq rfl) (zzl rfl (zoo (T := ⟨K, ca⟩) (c := 8) Xt.cl_Book Xt.na_Book_pots zts) (zzy 0)) (zzy 1) (fun _ _ => rfl)) zzi)) (ztg (zzy 2) zzi)))) (zzl rfl (zoo (T := ⟨K, ca⟩) (c := 8) Xt.cl_Book Xt.na_Book_claims zts) (zzy 0)) (zzy 1)))))))
abbrev zjg : Stmt := top 59
noncomputable def zid : Ev -> M Fl :=
  (yjp (yjq 3 (yh9 yi2 (yh9 yiw (yif 2) (eC (.int 6))) (ye2 yi1 (yej (yif 1) yhx))))
  (yjp (yjq 4 (yh9 yi2 (yh9 yiw (yif 2) (eC (.int 18))) (eC (.int 2))))
  (yjp (yjq 5 (yh9 yis (yh9 oIx (yh9 oIx (yif 1) (yif 3)) (eC (.int 2))) (yh9 oIx (yh9 oIx (yif 1) (yif 3)) (eC (.int 3)))))
  (yjp (yjq 6 (yh9 oIx (eLv (yej (eFn 2 f__law_small_stand [] (yej (yh9 yiw (yif 2) (eC (.int 36))) (yej (yif 5) yhx))) (yej (yie (yej (eC (.int 0)) (yej (yie (yej (yh9 oIx (yh9 oIx (yif 1) (yif 3)) (eC (.int 2))) (yej (yh9 oIx (yh9 oIx (yif 1) (yif 3)) (eC (.int 3))) yhx))) (yej (yie yhx) yhx)))) yhx))) (yh9 yiw (yh9 yi2 (yh9 yiw (yif 2) (eC (.int 36))) (eC (.int 5))) (eC (.int 4)))))
  (yjp (yjr (sIf (eT (yh9 oLt (yh9 yi2 (yif 2) (eC (.int 6))) (eC (.int 2)))) (yjk (yid [(8, f_Book_next_day)] 1 "next_day" (yif 0) yhx)) (sIf (eT (yh9 oLt (yh9 yi2 (yif 2) (eC (.int 6))) (eC (.int 4)))) (yjk (yid [(8, f_Book_show)] 3 "show" (yif 0) (yej (yif 3) (yej (yh9 yi2 (yh9 yiw (yif 2) (eC (.int 18))) (eC (.int 12))) yhx)))) (sIf (eT (yh9 oEq (yh9 yi2 (yif 2) (eC (.int 6))) (eC (.int 4)))) (yjk (yid [(8, f_Book_lay)] 5 "lay" (yif 0) (yej (yif 3) (yej (yif 4) (yej (yif 6) (yej (yie (yej (eC (.str "agree")) (yej (yif 3) (yej (yh9 yi8 (eC (.int 1)) (yif 4)) (yej (yif 6) yhx))))) yhx)))))) (sIf (yhz (eT (yh9 oEq (yh9 yi2 (yh9 yiw (yif 2) (eC (.int 36))) (eC (.int 3))) (eC (.int 0)))) (eT (yh9 oEq (yh9 oIx (yid [(8, f_Book_told)] 2 "told" (yif 0) (yej (yif 3) yhx)) (eC (.int 0))) (eC (.str "laid"))))) (yjk (yid [(8, f_Book_strike)] 4 "strike" (yif 0) (yej (yif 3) (yej (yh9 yi8 (eC (.int 1)) (yh9 oIx (yid [(8, f_Book_told)] 2 "told" (yif 0) (yej (yif 3) yhx)) (eC (.int 1)))) (yej (yie (yej (eC (.str "strike")) (yej (yif 3) (yej (yh9 oIx (yid [(8, f_Book_told)] 2 "told" (yif 0) (yej (yif 3) yhx)) (eC (.int 1))) (yej (yh9 oIx (yh9 oIx (yid [(8, f_Book_told)] 2 "told" (yif 0) (yej (yif 3) yhx)) (eC (.int 2))) (eC (.int 0))) yhx))))) yhx))))) yjm)))) (⟨(yij [(0, false), (1, false), (2, true)]), none, (yjq 3 (eUn yi4 (eC (.int 1))))⟩ :: []))
  (yjo (yif 3)))))))
noncomputable def f__law_try : List D -> M D := hide (run 7 zid)
theorem zhn : FnScope ["_law_book", "_law_pots_here", "_law_cell", "_law_pot", "_law_side", "_law_whole", "_law_one"] ["_law_book", "_law_pots_here", "_law_cell"] (znx zjg) := ⟨rfl, rfl, rfl, by decide +kernel, rfl, by decide +kernel, by decide +kernel⟩
theorem zf8 : BD "_law_try" "_law_try" zjg ["_law_book", "_law_pots_here", "_law_cell"] :=
  fun _ _ _ _ _ _ us hl => match us, hl with | [_, _, _], _ => rfl
theorem zg1 (Xt : Txt K mg ca) : OkF ⟨K, ca⟩ P w mg base 11 "_law_try" ["_law_book", "_law_pots_here", "_law_cell"] f__law_try :=
  OkF.hide (ygh Xt.f__law_try zhn fun _ _ _ _ _ _ _ hr =>
    (zov (yab (i := 3) zhn.nd rfl (Or.inl rfl) (yfc yca zxt (yfc zv3 zxq (zzy 2) zzn) (zn9 zev (zxs rfl) rfl Xt.n_len PySem.boot_len (ztg (zzy 1) zzi))))
    (zov (yab (i := 4) zhn.nd rfl (Or.inl rfl) (yfc yca zxt (yfc zv3 zxq (zzy 2) zzn) zzn))
    (zov (yab (i := 5) zhn.nd rfl (Or.inl rfl) (yfc (zv1 rfl) yju (ye9 yil (ydq rfl) (ye9 yil (ydq rfl) (zzy 1) (zzy 3) (fun _ _ => rfl)) zzn (fun _ _ => rfl)) (ye9 yil (ydq rfl) (ye9 yil (ydq rfl) (zzy 1) (zzy 3) (fun _ _ => rfl)) zzn (fun _ _ => rfl))))
    (zov (yab (i := 6) zhn.nd rfl (Or.inl rfl) (ye9 yil (ydq rfl) (yfb (ztg (zoa (zad Xt) rfl (hr.mono (by decide)) rfl (ztg (yfc zv3 zxq (zzy 2) zzn) (ztg (zzy 5) zzi))) (ztg (zzx (ztg zzn (ztg (zzx (ztg (ye9 yil (ydq rfl) (ye9 yil (ydq rfl) (zzy 1) (zzy 3) (fun _ _ => rfl)) zzn (fun _ _ => rfl)) (ztg (ye9 yil (ydq rfl) (ye9 yil (ydq rfl) (zzy 1) (zzy 3) (fun _ _ => rfl)) zzn (fun _ _ => rfl)) zzi))) (ztg (zzx zzi) zzi)))) zzi))) (yfc zv3 zxq (yfc yca zxt (yfc zv3 zxq (zzy 2) zzn) zzn) zzn) (fun _ _ => rfl)))
    (zov (yac rfl rfl (fun _ _ hpo => (zt4 (yfi (yad ygk yds (yfc yca zxt (zzy 2) zzn) zzn (ybo _)) (zt4 (ztz (ztm (k := 1) (ps := ["self"]) rfl (zzy 0) (zvc (T := ⟨K, ca⟩) (c := 8) Xt.cl_Book Xt.me_Book_next_day (zbf Xt) (by decide) ybj) (hr.mono (by decide))))) (zt4 (yfi (yad ygk yds (yfc yca zxt (zzy 2) zzn) zzn (ybo _)) (zt4 (ztz (zzs (k := 4) (ps := ["self", "pot", "word"]) rfl (zzy 0) (zvc (T := ⟨K, ca⟩) (c := 8) Xt.cl_Book Xt.me_Book_show (ze9 Xt) (by decide) ybj) (hr.mono (by decide)) (ztg (zzy 3) (ztg (yfc yca zxt (yfc zv3 zxq (zzy 2) zzn) zzn) zzi))))) (zt4 (yfi (yad (yb8 (hu9 hr)) yju (yfc yca zxt (zzy 2) zzn) zzn (ybo _)) (zt4 (ztz (ztn (k := 10) (c := 8) (ps := ["self", "pot", "side", "stand", "agreement"]) rfl (zzy 0) Xt.cl_Book Xt.me_Book_lay (zgz Xt) (hr.mono (by decide)) (ztg (zzy 3) (ztg (zzy 4) (ztg (zzy 6) (ztg (zzx (ztg zzw (ztg (zzy 3) (ztg (yfc ycg zxy zzn (zzy 4)) (ztg (zzy 6) zzi))))) zzi))))))) (zt4 (yfi (L2.PW.pt (yah (yad (yb8 (hu9 hr)) yju (yfc yca zxt (yfc zv3 zxq (zzy 2) zzn) zzn) zzn (ybo _)) (zt5 (yad (yb8 (hu9 hr)) yju (ye9 yil (ydq rfl) (zzs (k := 4) (ps := ["self", "pot"]) rfl (zzy 0) (zvc (T := ⟨K, ca⟩) (c := 8) Xt.cl_Book Xt.me_Book_told (zfa Xt) (by decide) ybj) (hr.mono (by decide)) (ztg (zzy 3) zzi)) zzn (fun _ _ => rfl)) zzw (ybo _))))) (zt4 (ztz (zzs (k := 9) (ps := ["self", "pot", "side", "thing"]) rfl (zzy 0) (zvc (T := ⟨K, ca⟩) (c := 8) Xt.cl_Book Xt.me_Book_strike (zcy Xt) (by decide) ybj) (hr.mono (by decide)) (ztg (zzy 3) (ztg (yfc ycg zxy zzn (ye9 yil (ydq rfl) (zzs (k := 4) (ps := ["self", "pot"]) rfl (zzy 0) (zvc (T := ⟨K, ca⟩) (c := 8) Xt.cl_Book Xt.me_Book_told (zfa Xt) (by decide) ybj) (hr.mono (by decide)) (ztg (zzy 3) zzi)) zzn (fun _ _ => rfl))) (ztg (zzx (ztg zzw (ztg (zzy 3) (ztg (ye9 yil (ydq rfl) (zzs (k := 4) (ps := ["self", "pot"]) rfl (zzy 0) (zvc (T := ⟨K, ca⟩) (c := 8) Xt.cl_Book Xt.me_Book_told (zfa Xt) (by decide) ybj) (hr.mono (by decide)) (ztg (zzy 3) zzi)) zzn (fun _ _ => rfl)) (ztg (ye9 yil (ydq rfl) (ye9 yil (ydq rfl) (zzs (k := 4) (ps := ["self", "pot"]) rfl (zzy 0) (zvc (T := ⟨K, ca⟩) (c := 8) Xt.cl_Book Xt.me_Book_told (zfa Xt) (by decide) ybj) (hr.mono (by decide)) (ztg (zzy 3) zzi)) zzn (fun _ _ => rfl)) zzn (fun _ _ => rfl)) zzi))))) zzi)))))) zt3))))))))) (.cons rfl (by decide) (.inl Xt.m_NoDeed) (yfo (zuf Xt.e_BookError_NoDeed (zuf Xt.e_NoStand_NoDeed (zuf Xt.e_NoDeed_NoDeed yan)))) (fun _ => (zt4 (yab (i := 3) zhn.nd rfl (Or.inl rfl) (yfd yd5 zxv zzn)))) .nil))
    (zt4 (yaa (zzy 3)))))))))
abbrev zfk : Stmt := yf4 (top 53) 2
noncomputable def zey : Ev -> M Fl :=
  (yjo (eUn (yix [6, 8] "day") (yif 0)))
noncomputable def f_Book_today : List D -> M D := hide fun ds => frz (run 1 zey ds)
theorem zd9 : FnScope ["self"] ["self"] (znx zfk) := ⟨rfl, rfl, rfl, by decide +kernel, rfl, by decide +kernel, by decide +kernel⟩
theorem zdf : BD "today" "Book.today" zfk ["self"] :=
  fun _ _ _ _ _ _ us hl => match us, hl with | [_], _ => rfl
theorem zdu (Xt : Txt K mg ca) : OkA ⟨K, ca⟩ P w mg base 1 (ca 24) ["self"] f_Book_today :=
  OkA.hide (OkA.frz (yby Xt.f_Book_today zd9 fun _ _ _ _ _ _ hr =>
    (zt4 (yaa (zzl rfl (zoo (T := ⟨K, ca⟩) (c := 6) Xt.cl_Laid Xt.na_Laid_day (zoo (T := ⟨K, ca⟩) (c := 8) Xt.cl_Book Xt.na_Book_day zts)) (zzy 0))))))
abbrev zbj : Stmt := yf4 (top 53) 9
noncomputable def zbb : Ev -> M Fl :=
  (yjp (yjk (yid [(8, f_Book_check_pot)] 2 "check_pot" (yif 0) (yej (yif 1) yhx)))
  (yjo (ye2 yiv (yej (yh9 oIx (eUn (yix [8] "shown") (yif 0)) (yif 1)) yhx))))
noncomputable def f_Book_shown_for : List D -> M D := hide fun ds => frz (run 2 zbb ds)
theorem za3 : FnScope ["self", "pot"] ["self", "pot"] (znx zbj) := ⟨rfl, rfl, rfl, by decide +kernel, rfl, by decide +kernel, by decide +kernel⟩
theorem zar : BD "shown_for" "Book.shown_for" zbj ["self", "pot"] :=
  fun _ _ _ _ _ _ us hl => match us, hl with | [_, _], _ => rfl
theorem zax (Xt : Txt K mg ca) : OkA ⟨K, ca⟩ P w mg base 4 (ca 31) ["self", "pot"] f_Book_shown_for :=
  OkA.hide (OkA.frz (yby Xt.f_Book_shown_for za3 fun _ _ _ _ _ _ hr =>
    (zov (ztz (zzs (k := 3) (ps := ["self", "pot"]) rfl (zzy 0) (zvc (T := ⟨K, ca⟩) (c := 8) Xt.cl_Book Xt.me_Book_check_pot (zaw Xt) (by decide) ybj) (hr.mono (by decide)) (ztg (zzy 1) zzi)))
    (zt4 (yaa (zkx znh zxo rfl Xt.n_dict boot_dict (ztg (ye9 yil (ydq rfl) (zzl rfl (zoo (T := ⟨K, ca⟩) (c := 8) Xt.cl_Book Xt.na_Book_shown zts) (zzy 0)) (zzy 1) (fun _ _ => rfl)) zzi)))))))
abbrev zjf : Stmt := top 60
noncomputable def zic : Ev -> M Fl :=
  (yjp (yjq 4 (yid [(8, f_Book_told)] 2 "told" (yif 0) (yej (yif 1) yhx)))
  (yjp (sIf (eT (yh9 oEq (yh9 oIx (yif 4) (eC (.int 0))) (eC (.str "taken")))) (yjo (yie (yej (yh9 yi3 (yif 2) (yh9 yi8 (eC (.int 1)) (yh9 oIx (yif 4) (eC (.int 1))))) (yej (yh9 yi3 (yif 2) (yh9 oIx (yif 4) (eC (.int 1)))) (yej (eC (.int 0)) yhx))))) yjm)
  (yjp (sIf (bOr (eT (yh9 oEq (yh9 oIx (yif 4) (eC (.int 0))) (eC (.str "held")))) (eT (yh9 oLt (yh9 yi8 (yid [(8, f_Book_today)] 1 "today" (yif 0) yhx) (yh9 oIx (yif 4) (eC (.int 3)))) (yif 3)))) (yjo (yie (yej (eC (.int 0)) (yej (eC (.int 0)) (yej (yif 2) yhx))))) yjm)
  (yjp (yjq 5 (yid [(8, f_Book_shown_for)] 2 "shown_for" (yif 0) (yej (yif 1) yhx)))
  (yjp (yjq 6 (yic (yej (yh9 oIx (yh9 oIx (yh9 oIx (yif 4) (eC (.int 2))) (eC (.int 1))) (eC (.int 0))) (yej (yh9 oIx (yh9 oIx (yh9 oIx (yif 4) (eC (.int 2))) (eC (.int 1))) (eC (.int 1))) (yej (eC (.int 0)) yhx)))))
  (yjp (yjl (yjw (yh9 oIx (yh9 oIx (yif 4) (eC (.int 2))) (eC (.int 2)))) (tgT 4 (ydx (tgN 7) (ydx (tgN 8) (ydx (tgN 9) (ydx (tgN 10) yhc))))) (sIf (eT (yh9 oLt (zy9 ygb (yif 5) (yej (yif 9) (yej (yif 10) yhx))) (yif 10))) (ygx (yh9 yis (yh9 oIx (yif 6) (yh9 yi8 (eC (.int 1)) (yif 7))) (yif 8)) (yif 6) (yh9 yi8 (eC (.int 1)) (yif 7))) (sIf (eT (yh9 oLt (yid [(8, f_Book_today)] 1 "today" (yif 0) yhx) (yif 10))) (ygx (yh9 yis (yh9 oIx (yif 6) (eC (.int 2))) (yif 8)) (yif 6) (eC (.int 2))) (ygx (yh9 yis (yh9 oIx (yif 6) (yif 7)) (yif 8)) (yif 6) (yif 7)))))
  (yjo (yie (yej (yh9 oIx (yif 6) (eC (.int 0))) (yej (yh9 oIx (yif 6) (eC (.int 1))) (yej (yh9 oIx (yif 6) (eC (.int 2))) yhx)))))))))))
noncomputable def f__law_due : List D -> M D := hide fun ds => frz (run 11 zic ds)
theorem zhm : FnScope ["_law_book", "_law_pot", "_law_whole", "_law_wait", "_law_claim", "_law_shown", "_law_found", "_law_payer", "_law_amount", "_law_word", "_law_last"] ["_law_book", "_law_pot", "_law_whole", "_law_wait"] (znx zjf) := ⟨rfl, rfl, rfl, by decide +kernel, rfl, by decide +kernel, by decide +kernel⟩
theorem zf7 : BD "_law_due" "_law_due" zjf ["_law_book", "_law_pot", "_law_whole", "_law_wait"] :=
  fun _ _ _ _ _ _ us hl => match us, hl with | [_, _, _, _], _ => rfl
theorem zg0 (Xt : Txt K mg ca) : OkF ⟨K, ca⟩ P w mg base 5 "_law_due" ["_law_book", "_law_pot", "_law_whole", "_law_wait"] f__law_due :=
  OkF.hide (OkF.frz (ygh Xt.f__law_due zhm fun _ _ _ _ _ _ _ hr =>
    (zov (yab (i := 4) zhm.nd rfl (Or.inl rfl) (zzs (k := 4) (ps := ["self", "pot"]) rfl (zzy 0) (zvc (T := ⟨K, ca⟩) (c := 8) Xt.cl_Book Xt.me_Book_told (zfa Xt) (by decide) ybj) (hr.mono (by decide)) (ztg (zzy 1) zzi)))
    (zov (yfi (yad (yb8 (hu9 hr)) yju (ye9 yil (ydq rfl) (zzy 4) zzn (fun _ _ => rfl)) zzw (ybo _)) (zt4 (yaa (zzx (ztg (yfc ycb zxu (zzy 2) (yfc ycg zxy zzn (ye9 yil (ydq rfl) (zzy 4) zzn (fun _ _ => rfl)))) (ztg (yfc ycb zxu (zzy 2) (ye9 yil (ydq rfl) (zzy 4) zzn (fun _ _ => rfl))) (ztg zzn zzi)))))) zt3)
    (zov (yfi (L2.PW.pt (yfj (yad (yb8 (hu9 hr)) yju (ye9 yil (ydq rfl) (zzy 4) zzn (fun _ _ => rfl)) zzw (ybo _)) (yai (yad ygk yds (yfc ycg zxy (ztm (k := 1) (ps := ["self"]) rfl (zzy 0) (zvc (T := ⟨K, ca⟩) (c := 8) Xt.cl_Book Xt.me_Book_today (zdu Xt) (by decide) ybj) (hr.mono (by decide))) (ye9 yil (ydq rfl) (zzy 4) zzn (fun _ _ => rfl))) (zzy 3) (ybo _))))) (zt4 (yaa (zzx (ztg zzn (ztg zzn (ztg (zzy 2) zzi)))))) zt3)
    (zov (yab (i := 5) zhm.nd rfl (Or.inl rfl) (zzs (k := 4) (ps := ["self", "pot"]) rfl (zzy 0) (zvc (T := ⟨K, ca⟩) (c := 8) Xt.cl_Book Xt.me_Book_shown_for (zax Xt) (by decide) ybj) (hr.mono (by decide)) (ztg (zzy 1) zzi)))
    (zov (yab (i := 6) zhm.nd rfl (Or.inl rfl) (zzr (ztg (ye9 yil (ydq rfl) (ye9 yil (ydq rfl) (ye9 yil (ydq rfl) (zzy 4) zzn (fun _ _ => rfl)) zzn (fun _ _ => rfl)) zzn (fun _ _ => rfl)) (ztg (ye9 yil (ydq rfl) (ye9 yil (ydq rfl) (ye9 yil (ydq rfl) (zzy 4) zzn (fun _ _ => rfl)) zzn (fun _ _ => rfl)) zzn (fun _ _ => rfl)) (ztg zzn zzi)))))
    (zov (zz9 zl9 rfl (zz0 rfl (ye9 yil (ydq rfl) (ye9 yil (ydq rfl) (zzy 4) zzn (fun _ _ => rfl)) zzn (fun _ _ => rfl))) (zzz rfl (zoi (zto (i := 7) zhm.nd rfl (Or.inl rfl)) (zoi (zto (i := 8) zhm.nd rfl (Or.inl rfl)) (zoi (zto (i := 9) zhm.nd rfl (Or.inl rfl)) (zoi (zto (i := 10) zhm.nd rfl (Or.inl rfl)) ztp))))) (zt4 (yfi (yad ygk yds (zof PySem.F.plainAttrs_dict PySem.F.slot_dict_get PySem.F.type_dict_get zvd zrc (zzy 5) (ztg (zzy 9) (ztg (zzy 10) zzi))) (zzy 10) (ybo _)) (zt4 (zt2 (yfc (zv1 rfl) yju (ye9 yil (ydq rfl) (zzy 6) (yfc ycg zxy zzn (zzy 7)) (fun _ _ => rfl)) (zzy 8)) (zzy 6) (yfc ycg zxy zzn (zzy 7)))) (zt4 (yfi (yad ygk yds (ztm (k := 1) (ps := ["self"]) rfl (zzy 0) (zvc (T := ⟨K, ca⟩) (c := 8) Xt.cl_Book Xt.me_Book_today (zdu Xt) (by decide) ybj) (hr.mono (by decide))) (zzy 10) (ybo _)) (zt4 (zt2 (yfc (zv1 rfl) yju (ye9 yil (ydq rfl) (zzy 6) zzn (fun _ _ => rfl)) (zzy 8)) (zzy 6) zzn)) (zt4 (zt2 (yfc (zv1 rfl) yju (ye9 yil (ydq rfl) (zzy 6) (zzy 7) (fun _ _ => rfl)) (zzy 8)) (zzy 6) (zzy 7))))))))
    (zt4 (yaa (zzx (ztg (ye9 yil (ydq rfl) (zzy 6) zzn (fun _ _ => rfl)) (ztg (ye9 yil (ydq rfl) (zzy 6) zzn (fun _ _ => rfl)) (ztg (ye9 yil (ydq rfl) (zzy 6) zzn (fun _ _ => rfl)) zzi))))))))))))))
abbrev zfl : Stmt := yf4 (top 42) 1
noncomputable def zez : Ev -> M Fl :=
  (yjo (yie (yej (eC (.int 0)) (yej (eC (.int 0)) (yej (eUn (yix [4, 5, 6, 7] "whole") (yif 0)) yhx)))))
noncomputable def f_Held_comes : List D -> M D := hide fun ds => frz (run 3 zez ds)
theorem zea : FnScope ["self", "day", "shown"] ["self", "day", "shown"] (znx zfl) := ⟨rfl, rfl, rfl, by decide +kernel, rfl, by decide +kernel, by decide +kernel⟩
theorem zdg : BD "comes" "Held.comes" zfl ["self", "day", "shown"] :=
  fun _ _ _ _ _ _ us hl => match us, hl with | [_, _, _], _ => rfl
theorem zdv (Xt : Txt K mg ca) : OkA ⟨K, ca⟩ P w mg base 1 (ca 11) ["self", "day", "shown"] f_Held_comes :=
  OkA.hide (OkA.frz (yby Xt.f_Held_comes zea fun _ _ _ _ _ _ hr =>
    (zt4 (yaa (zzx (ztg zzn (ztg zzn (ztg (zzl rfl (zoo (T := ⟨K, ca⟩) (c := 4) Xt.cl_Claim Xt.na_Claim_whole (zoo (T := ⟨K, ca⟩) (c := 5) Xt.cl_Held Xt.na_Held_whole (zoo (T := ⟨K, ca⟩) (c := 6) Xt.cl_Laid Xt.na_Laid_whole (zoo (T := ⟨K, ca⟩) (c := 7) Xt.cl_Taken Xt.na_Taken_whole zts)))) (zzy 0)) zzi))))))))
abbrev zcd : Stmt := top 35
noncomputable def zb1 : Ev -> M Fl :=
  (yjo (yh8 (yh9 yiu (yh9 oIx (yif 0) (eC (.int 2))) (yif 1)) (yh9 oLt (yh9 yga (yif 1) (yh9 oIx (yif 0) (eC (.int 2)))) (yh9 oIx (yif 0) (eC (.int 3))))))
noncomputable def f_shown_in_time : List D -> M D := hide fun ds => frz (run 2 zb1 ds)
theorem zbp : FnScope ["tie", "shown"] ["tie", "shown"] (znx zcd) := ⟨rfl, rfl, rfl, by decide +kernel, rfl, by decide +kernel, by decide +kernel⟩
theorem za9 : BD "shown_in_time" "shown_in_time" zcd ["tie", "shown"] :=
  fun _ _ _ _ _ _ us hl => match us, hl with | [_, _], _ => rfl
theorem zbh (Xt : Txt K mg ca) : OkF ⟨K, ca⟩ P w mg base 1 "shown_in_time" ["tie", "shown"] f_shown_in_time :=
  OkF.hide (OkF.frz (ygh Xt.f_shown_in_time zbp fun _ _ _ _ _ _ _ hr =>
    (zt4 (yaa (zzj (zzk (yb7 (hu9 hr)) zxp (ye9 yil (ydq rfl) (zzy 0) zzn (fun _ _ => rfl)) (zzy 1) rfl) (zzv (zzk ygk yds (zti (hu9 hr) (zzy 1) (ye9 yil (ydq rfl) (zzy 0) zzn (fun _ _ => rfl)) (fun _ _ => rfl)) (ye9 yil (ydq rfl) (zzy 0) zzn (fun _ _ => rfl)) (ybo _))))))))
abbrev zjl : Stmt := top 40
noncomputable def zii : Ev -> M Fl :=
  (yjp (sIf (eT (eFn 2 f_shown_in_time [] (yej (yif 0) (yej (yif 2) yhx)))) (yjo (eFn 1 f_other_side [] (yej (yh9 oIx (yif 0) (eC (.int 0))) yhx))) yjm)
  (yjp (sIf (eT (yh9 oGe (yif 1) (yh9 oIx (yif 0) (eC (.int 3))))) (yjo (yh9 oIx (yif 0) (eC (.int 0)))) yjm)
  (yjo (eC .non))))
noncomputable def f_side_due : List D -> M D := hide fun ds => frz (run 3 zii ds)
theorem zhs : FnScope ["tie", "day", "shown"] ["tie", "day", "shown"] (znx zjl) := ⟨rfl, rfl, rfl, by decide +kernel, rfl, by decide +kernel, by decide +kernel⟩
theorem zgd : BD "side_due" "side_due" zjl ["tie", "day", "shown"] :=
  fun _ _ _ _ _ _ us hl => match us, hl with | [_, _, _], _ => rfl
theorem zg6 (Xt : Txt K mg ca) : OkF ⟨K, ca⟩ P w mg base 2 "side_due" ["tie", "day", "shown"] f_side_due :=
  OkF.hide (OkF.frz (ygh Xt.f_side_due zhs fun _ _ _ _ _ _ _ hr =>
    (zov (yfi (yaf (zoa (zbh Xt) rfl (hr.mono (by decide)) rfl (ztg (zzy 0) (ztg (zzy 2) zzi)))) (zt4 (yaa (zoa (zd3 Xt) rfl (hr.mono (by decide)) rfl (ztg (ye9 yil (ydq rfl) (zzy 0) zzn (fun _ _ => rfl)) zzi)))) zt3)
    (zov (yfi (yad op_ge ydn (zzy 1) (ye9 yil (ydq rfl) (zzy 0) zzn (fun _ _ => rfl)) (ybo _)) (zt4 (yaa (ye9 yil (ydq rfl) (zzy 0) zzn (fun _ _ => rfl)))) zt3)
    (zt4 (yaa zzt))))))
abbrev zhk : Stmt := top 34
noncomputable def zgq : Ev -> M Fl :=
  (yjp (sIf (eT (yh9 oEq (yif 1) (eC (.int 0)))) (yjo (yie (yej (yh9 yis (yh9 oIx (yif 0) (eC (.int 0))) (yif 2)) (yej (yh9 oIx (yif 0) (eC (.int 1))) yhx)))) yjm)
  (yjo (yie (yej (yh9 oIx (yif 0) (eC (.int 0))) (yej (yh9 yis (yh9 oIx (yif 0) (eC (.int 1))) (yif 2)) yhx)))))
noncomputable def f_with_more : List D -> M D := hide fun ds => frz (run 3 zgq ds)
theorem zf3 : FnScope ["shares", "side", "amount"] ["shares", "side", "amount"] (znx zhk) := ⟨rfl, rfl, rfl, by decide +kernel, rfl, by decide +kernel, by decide +kernel⟩
theorem zet : BD "with_more" "with_more" zhk ["shares", "side", "amount"] :=
  fun _ _ _ _ _ _ us hl => match us, hl with | [_, _, _], _ => rfl
theorem zfh (Xt : Txt K mg ca) : OkF ⟨K, ca⟩ P w mg base 1 "with_more" ["shares", "side", "amount"] f_with_more :=
  OkF.hide (OkF.frz (ygh Xt.f_with_more zf3 fun _ _ _ _ _ _ _ hr =>
    (zov (yfi (yad (yb8 (hu9 hr)) yju (zzy 1) zzn (ybo _)) (zt4 (yaa (zzx (ztg (yfc (zv1 rfl) yju (ye9 yil (ydq rfl) (zzy 0) zzn (fun _ _ => rfl)) (zzy 2)) (ztg (ye9 yil (ydq rfl) (zzy 0) zzn (fun _ _ => rfl)) zzi))))) zt3)
    (zt4 (yaa (zzx (ztg (ye9 yil (ydq rfl) (zzy 0) zzn (fun _ _ => rfl)) (ztg (yfc (zv1 rfl) yju (ye9 yil (ydq rfl) (zzy 0) zzn (fun _ _ => rfl)) (zzy 2)) zzi))))))))
abbrev zfm : Stmt := yf4 (top 43) 3
noncomputable def ze0 : Ev -> M Fl :=
  (yjp (sIf (eT (yid [(6, f_Laid_waits)] 2 "waits" (yif 0) (yej (yif 1) yhx))) (yjo (yie (yej (eC (.int 0)) (yej (eC (.int 0)) (yej (eUn (yix [4, 5, 6, 7] "whole") (yif 0)) yhx))))) yjm)
  (yjp (yjq 3 (yh9 oIx (eUn (yix [6] "stand") (yif 0)) (eC (.int 1))))
  (yjp (yjl (yjw (yh9 oIx (eUn (yix [6] "stand") (yif 0)) (eC (.int 2)))) (tgN 4) (yjp (yjq 5 (eFn 3 f_side_due [] (yej (yif 4) (yej (yif 1) (yej (yif 2) yhx)))))
  (sIf (eT (yh9 ygf (yif 5) (eC .non))) (yjq 3 (eFn 3 f_with_more [] (yej (yif 3) (yej (yif 5) (yej (yh9 oIx (yif 4) (eC (.int 1))) yhx))))) yjm)))
  (yjo (yie (yej (yh9 oIx (yif 3) (eC (.int 0))) (yej (yh9 oIx (yif 3) (eC (.int 1))) (yej (yh9 yi8 (eUn (yix [4, 5, 6, 7] "whole") (yif 0)) (ye2 yi9 (yej (yif 3) yhx))) yhx))))))))
noncomputable def f_Laid_comes : List D -> M D := hide fun ds => frz (run 6 ze0 ds)
theorem zeb : FnScope ["self", "day", "shown", "due", "tie", "side"] ["self", "day", "shown"] (znx zfm) := ⟨rfl, rfl, rfl, by decide +kernel, rfl, by decide +kernel, by decide +kernel⟩
theorem zdh : BD "comes" "Laid.comes" zfm ["self", "day", "shown"] :=
  fun _ _ _ _ _ _ us hl => match us, hl with | [_, _, _], _ => rfl
theorem zdw (Xt : Txt K mg ca) : OkA ⟨K, ca⟩ P w mg base 3 (ca 16) ["self", "day", "shown"] f_Laid_comes :=
  OkA.hide (OkA.frz (yby Xt.f_Laid_comes zeb fun _ _ _ _ _ _ hr =>
    (zov (yfi (yaf (zzs (k := 1) (ps := ["self", "day"]) rfl (zzy 0) (zvc (T := ⟨K, ca⟩) (c := 6) Xt.cl_Laid Xt.me_Laid_waits (zdx Xt) (by decide) ybj) (hr.mono (by decide)) (ztg (zzy 1) zzi))) (zt4 (yaa (zzx (ztg zzn (ztg zzn (ztg (zzl rfl (zoo (T := ⟨K, ca⟩) (c := 4) Xt.cl_Claim Xt.na_Claim_whole (zoo (T := ⟨K, ca⟩) (c := 5) Xt.cl_Held Xt.na_Held_whole (zoo (T := ⟨K, ca⟩) (c := 6) Xt.cl_Laid Xt.na_Laid_whole (zoo (T := ⟨K, ca⟩) (c := 7) Xt.cl_Taken Xt.na_Taken_whole zts)))) (zzy 0)) zzi)))))) zt3)
    (zov (yab (i := 3) zeb.nd rfl (Or.inl rfl) (ye9 yil (ydq rfl) (zzl rfl (zoo (T := ⟨K, ca⟩) (c := 6) Xt.cl_Laid Xt.na_Laid_stand zts) (zzy 0)) zzn (fun _ _ => rfl)))
    (zov (zz9 zl9 rfl (zz0 rfl (ye9 yil (ydq rfl) (zzl rfl (zoo (T := ⟨K, ca⟩) (c := 6) Xt.cl_Laid Xt.na_Laid_stand zts) (zzy 0)) zzn (fun _ _ => rfl))) (zto (i := 4) zeb.nd rfl (Or.inl rfl)) (zov (yab (i := 5) zeb.nd rfl (Or.inl rfl) (zoa (zg6 Xt) rfl (hr.mono (by decide)) rfl (ztg (zzy 4) (ztg (zzy 1) (ztg (zzy 2) zzi)))))
    (zt4 (yfi (yad zv4 zrf (zzy 5) zzt (ybo _)) (zt4 (yab (i := 3) zeb.nd rfl (Or.inl rfl) (zoa (zfh Xt) rfl (hr.mono (by decide)) rfl (ztg (zzy 3) (ztg (zzy 5) (ztg (ye9 yil (ydq rfl) (zzy 4) zzn (fun _ _ => rfl)) zzi)))))) zt3))))
    (zt4 (yaa (zzx (ztg (ye9 yil (ydq rfl) (zzy 3) zzn (fun _ _ => rfl)) (ztg (ye9 yil (ydq rfl) (zzy 3) zzn (fun _ _ => rfl)) (ztg (yfc ycg zxy (zzl rfl (zoo (T := ⟨K, ca⟩) (c := 4) Xt.cl_Claim Xt.na_Claim_whole (zoo (T := ⟨K, ca⟩) (c := 5) Xt.cl_Held Xt.na_Held_whole (zoo (T := ⟨K, ca⟩) (c := 6) Xt.cl_Laid Xt.na_Laid_whole (zoo (T := ⟨K, ca⟩) (c := 7) Xt.cl_Taken Xt.na_Taken_whole zts)))) (zzy 0)) (zn9 (zkk rfl) (zxz rfl) rfl Xt.n_sum boot_sum (ztg (zzy 3) zzi))) zzi)))))))))))
abbrev zd6 : Stmt := yf4 (top 44) 2
noncomputable def zdr : Ev -> M Fl :=
  (yjp (yjq 3 (eFn 3 f_with_more [] (yej (yie (yej (eC (.int 0)) (yej (eC (.int 0)) yhx))) (yej (eUn (yix [6, 7] "side") (yif 0)) (yej (eUn (yix [4, 5, 6, 7] "whole") (yif 0)) yhx)))))
  (yjo (yie (yej (yh9 oIx (yif 3) (eC (.int 0))) (yej (yh9 oIx (yif 3) (eC (.int 1))) (yej (eC (.int 0)) yhx))))))
noncomputable def f_Taken_comes : List D -> M D := hide fun ds => frz (run 4 zdr ds)
theorem zdc : FnScope ["self", "day", "shown", "shares"] ["self", "day", "shown"] (znx zd6) := ⟨rfl, rfl, rfl, by decide +kernel, rfl, by decide +kernel, by decide +kernel⟩
theorem zcn : BD "comes" "Taken.comes" zd6 ["self", "day", "shown"] :=
  fun _ _ _ _ _ _ us hl => match us, hl with | [_, _, _], _ => rfl
theorem zcz (Xt : Txt K mg ca) : OkA ⟨K, ca⟩ P w mg base 2 (ca 20) ["self", "day", "shown"] f_Taken_comes :=
  OkA.hide (OkA.frz (yby Xt.f_Taken_comes zdc fun _ _ _ _ _ _ hr =>
    (zov (yab (i := 3) zdc.nd rfl (Or.inl rfl) (zoa (zfh Xt) rfl (hr.mono (by decide)) rfl (ztg (zzx (ztg zzn (ztg zzn zzi))) (ztg (zzl rfl (zoo (T := ⟨K, ca⟩) (c := 6) Xt.cl_Laid Xt.na_Laid_side (zoo (T := ⟨K, ca⟩) (c := 7) Xt.cl_Taken Xt.na_Taken_side zts)) (zzy 0)) (ztg (zzl rfl (zoo (T := ⟨K, ca⟩) (c := 4) Xt.cl_Claim Xt.na_Claim_whole (zoo (T := ⟨K, ca⟩) (c := 5) Xt.cl_Held Xt.na_Held_whole (zoo (T := ⟨K, ca⟩) (c := 6) Xt.cl_Laid Xt.na_Laid_whole (zoo (T := ⟨K, ca⟩) (c := 7) Xt.cl_Taken Xt.na_Taken_whole zts)))) (zzy 0)) zzi)))))
    (zt4 (yaa (zzx (ztg (ye9 yil (ydq rfl) (zzy 3) zzn (fun _ _ => rfl)) (ztg (ye9 yil (ydq rfl) (zzy 3) zzn (fun _ _ => rfl)) (ztg zzn zzi)))))))))
abbrev zd4 : Stmt := yf4 (top 53) 10
noncomputable def zdp : Ev -> M Fl :=
  (yjp (yjk (yid [(8, f_Book_check_pot)] 2 "check_pot" (yif 0) (yej (yif 1) yhx)))
  (yjo (yid [(5, f_Held_comes), (6, f_Laid_comes), (7, f_Taken_comes)] 3 "comes" (yh9 oIx (eUn (yix [8] "claims") (yif 0)) (yif 1)) (yej (eUn (yix [6, 8] "day") (yif 0)) (yej (yh9 oIx (eUn (yix [8] "shown") (yif 0)) (yif 1)) yhx)))))
noncomputable def f_Book_due_of : List D -> M D := hide fun ds => frz (run 2 zdp ds)
theorem zda : FnScope ["self", "pot"] ["self", "pot"] (znx zd4) := ⟨rfl, rfl, rfl, by decide +kernel, rfl, by decide +kernel, by decide +kernel⟩
theorem zcl : BD "due_of" "Book.due_of" zd4 ["self", "pot"] :=
  fun _ _ _ _ _ _ us hl => match us, hl with | [_, _], _ => rfl
theorem zcx (Xt : Txt K mg ca) : OkA ⟨K, ca⟩ P w mg base 4 (ca 32) ["self", "pot"] f_Book_due_of :=
  OkA.hide (OkA.frz (yby Xt.f_Book_due_of zda fun _ _ _ _ _ _ hr =>
    (zov (ztz (zzs (k := 3) (ps := ["self", "pot"]) rfl (zzy 0) (zvc (T := ⟨K, ca⟩) (c := 8) Xt.cl_Book Xt.me_Book_check_pot (zaw Xt) (by decide) ybj) (hr.mono (by decide)) (ztg (zzy 1) zzi)))
    (zt4 (yaa (zzs (k := 3) (ps := ["self", "day", "shown"]) rfl (ye9 yil (ydq rfl) (zzl rfl (zoo (T := ⟨K, ca⟩) (c := 8) Xt.cl_Book Xt.na_Book_claims zts) (zzy 0)) (zzy 1) (fun _ _ => rfl)) (zvc (T := ⟨K, ca⟩) (c := 5) Xt.cl_Held Xt.me_Held_comes (zdv Xt) (by decide) (zvc (T := ⟨K, ca⟩) (c := 6) Xt.cl_Laid Xt.me_Laid_comes (zdw Xt) (by decide) (zvc (T := ⟨K, ca⟩) (c := 7) Xt.cl_Taken Xt.me_Taken_comes (zcz Xt) (by decide) ybj))) (hr.mono (by decide)) (ztg (zzl rfl (zoo (T := ⟨K, ca⟩) (c := 6) Xt.cl_Laid Xt.na_Laid_day (zoo (T := ⟨K, ca⟩) (c := 8) Xt.cl_Book Xt.na_Book_day zts)) (zzy 0)) (ztg (ye9 yil (ydq rfl) (zzl rfl (zoo (T := ⟨K, ca⟩) (c := 8) Xt.cl_Book Xt.na_Book_shown zts) (zzy 0)) (zzy 1) (fun _ _ => rfl)) zzi))))))))
abbrev zc3 : Stmt := yf4 (top 53) 11
noncomputable def zcq : Ev -> M Fl :=
  (yjp (sIf (yh0 (eT (eFn 1 f_is_hand [] (yej (yif 1) yhx)))) (ydd 2 (yej (eC (.str "there is no such hand")) yhx)) yjm)
  (yjp (yjq 2 (eC (.int 0)))
  (yjp (ygv (srcE (eUn (yix [8] "pots") (yif 0))) (tgT 2 (ydx (tgN 3) (ydx (tgN 4) yhc))) (yjl (yjw (yie (yej (eC (.int 0)) (yej (eC (.int 1)) yhx)))) (tgN 5) (sIf (eT (yh9 oEq (yh9 oIx (yif 4) (yif 5)) (yif 1))) (yjj (fun a b => a + b) 2 (yh9 oIx (yid [(8, f_Book_due_of)] 2 "due_of" (yif 0) (yej (yif 3) yhx)) (yif 5))) yjm)))
  (yjo (yif 2)))))
noncomputable def f_Book_coin_of : List D -> M D := hide fun ds => frz (run 6 zcq ds)
theorem zce : FnScope ["self", "hand", "coin", "pot", "made", "side"] ["self", "hand"] (znx zc3) := ⟨rfl, rfl, rfl, by decide +kernel, rfl, by decide +kernel, by decide +kernel⟩
theorem zbr : BD "coin_of" "Book.coin_of" zc3 ["self", "hand"] :=
  fun _ _ _ _ _ _ us hl => match us, hl with | [_, _], _ => rfl
theorem zb3 (Xt : Txt K mg ca) : OkA ⟨K, ca⟩ P w mg base 5 (ca 33) ["self", "hand"] f_Book_coin_of :=
  OkA.hide (OkA.frz (yby Xt.f_Book_coin_of zce fun _ _ _ _ _ _ hr =>
    (zov (yfi (yae (yaf (zoa (zi4 Xt) rfl (hr.mono (by decide)) rfl (ztg (zzy 1) zzi)))) (zt4 (zou 2 PySem.F.excBase_ValueError rfl Xt.x_NoDeed Xt.m_NoDeed rfl rfl (ztg zzw zzi))) zt3)
    (zov (yab (i := 2) zce.nd rfl (Or.inl rfl) zzn)
    (zov (zt0 zl9 rfl (ztq rfl Xt.n_enumerate (zzl rfl (zoo (T := ⟨K, ca⟩) (c := 8) Xt.cl_Book Xt.na_Book_pots zts) (zzy 0))) (zzz rfl (zoi (zto (i := 3) zce.nd rfl (Or.inl rfl)) (zoi (zto (i := 4) zce.nd rfl (Or.inl rfl)) ztp))) (zt4 (zz9 zl9 rfl (zz0 rfl (zzx (ztg zzn (ztg zzn zzi)))) (zto (i := 5) zce.nd rfl (Or.inl rfl)) (zt4 (yfi (yad (yb8 (hu9 hr)) yju (ye9 yil (ydq rfl) (zzy 4) (zzy 5) (fun _ _ => rfl)) (zzy 1) (ybo _)) (zt4 (zz6 (i := 2) yas zce.nd rfl (Or.inl rfl) (ye9 yil (ydq rfl) (zzs (k := 4) (ps := ["self", "pot"]) rfl (zzy 0) (zvc (T := ⟨K, ca⟩) (c := 8) Xt.cl_Book Xt.me_Book_due_of (zcx Xt) (by decide) ybj) (hr.mono (by decide)) (ztg (zzy 3) zzi)) (zzy 5) (fun _ _ => rfl)))) zt3)))))
    (zt4 (yaa (zzy 2))))))))
abbrev zc4 : Stmt := yf4 (top 53) 12
noncomputable def zcr : Ev -> M Fl :=
  (yjo (ye2 yit (yej (yia (eLC (yjv (ye2 yi1 (yej (eUn (yix [8] "pots") (yif 0)) yhx))) [0] (tgN 0) yeo (yh9 oEq (yh9 oIx (yid [(8, f_Book_due_of)] 2 "due_of" (yif 1) (yej (yif 0) yhx)) (eC (.int 2))) (eC (.int 0))))) yhx)))
noncomputable def f_Book_is_over : List D -> M D := hide fun ds => frz (run 1 zcr ds)
theorem zcf : FnScope ["self"] ["self"] (znx zc4) := ⟨rfl, rfl, rfl, by decide +kernel, rfl, by decide +kernel, by decide +kernel⟩
theorem zbs : BD "is_over" "Book.is_over" zc4 ["self"] :=
  fun _ _ _ _ _ _ us hl => match us, hl with | [_], _ => rfl
theorem zb4 (Xt : Txt K mg ca) : OkA ⟨K, ca⟩ P w mg base 5 (ca 34) ["self"] f_Book_is_over :=
  OkA.hide (OkA.frz (yby Xt.f_Book_is_over zcf fun _ _ _ _ _ _ hr =>
    (zt4 (yaa (zn9 (zng rfl) (zxn rfl) rfl Xt.n_all boot_all (ztg (zzm (yfa (x := "pot") (M' := ["self"]) (ix := [0]) rfl ⟨rfl, rfl, rfl, rfl, rfl, rfl⟩ (zoj rfl Xt.n_range (zn9 zev (zxs rfl) rfl Xt.n_len PySem.boot_len (ztg (zzl rfl (zoo (T := ⟨K, ca⟩) (c := 8) Xt.cl_Book Xt.na_Book_pots zts) (zzy 0)) zzi))) (fun _ _ _ _ _ => zto (i := 0) (by show List.Nodup (("pot" :: ["self"]) : List Str); decide +kernel) rfl (Or.inl rfl)) (fun _ _ _ _ _ => ztr) (fun _ _ _ _ _ => (zzk (yb8 (hu9 hr)) yju (ye9 yil (ydq rfl) (zzs (k := 4) (ps := ["self", "pot"]) rfl (zzy 1) (zvc (T := ⟨K, ca⟩) (c := 8) Xt.cl_Book Xt.me_Book_due_of (zcx Xt) (by decide) ybj) (hr.mono (by decide)) (ztg (zzy 0) zzi)) zzn (fun _ _ => rfl)) zzn (ybo _))))) zzi))))))
abbrev zc7 : Stmt := top 61
noncomputable def zcu : Ev -> M Fl :=
  (yjp (yjq 3 (eC (.str "")))
  (yjp (yjr (yjk (yid [(8, f_Book_due_of)] 2 "due_of" (yif 0) (yej (yif 1) yhx))) (⟨(yij [(0, false), (1, false), (2, true)]), none, (yjq 3 (yh9 yis (yif 3) (eC (.str "d"))))⟩ :: []))
  (yjp (yjr (yjk (yid [(8, f_Book_told)] 2 "told" (yif 0) (yej (yif 1) yhx))) (⟨(yij [(0, false), (1, false), (2, true)]), none, (yjq 3 (yh9 yis (yif 3) (eC (.str "t"))))⟩ :: []))
  (yjp (yjr (yjk (yid [(8, f_Book_shown_for)] 2 "shown_for" (yif 0) (yej (yif 1) yhx))) (⟨(yij [(0, false), (1, false), (2, true)]), none, (yjq 3 (yh9 yis (yif 3) (eC (.str "s"))))⟩ :: []))
  (yjp (yjr (yjk (yid [(8, f_Book_show)] 3 "show" (yif 0) (yej (yif 1) (yej (eC (.int 3)) yhx)))) (⟨(yij [(0, false), (1, false), (2, true)]), none, (yjq 3 (yh9 yis (yif 3) (eC (.str "w"))))⟩ :: []))
  (yjp (yjr (yjk (yid [(8, f_Book_coin_of)] 2 "coin_of" (yif 0) (yej (yif 2) yhx))) (⟨(yij [(0, false), (1, false), (2, true)]), none, (yjq 3 (yh9 yis (yif 3) (eC (.str "c"))))⟩ :: []))
  (yjo (yh9 oEq (yif 3) (eC (.str "dtswc"))))))))))
noncomputable def f__law_refused : List D -> M D := hide fun ds => frz (run 4 zcu ds)
theorem zci : FnScope ["_law_book", "_law_pot", "_law_hand", "_law_word"] ["_law_book", "_law_pot", "_law_hand"] (znx zc7) := ⟨rfl, rfl, rfl, by decide +kernel, rfl, by decide +kernel, by decide +kernel⟩
theorem zbv : BD "_law_refused" "_law_refused" zc7 ["_law_book", "_law_pot", "_law_hand"] :=
  fun _ _ _ _ _ _ us hl => match us, hl with | [_, _, _], _ => rfl
theorem zb7 (Xt : Txt K mg ca) : OkF ⟨K, ca⟩ P w mg base 6 "_law_refused" ["_law_book", "_law_pot", "_law_hand"] f__law_refused :=
  OkF.hide (OkF.frz (ygh Xt.f__law_refused zci fun _ _ _ _ _ _ _ hr =>
    (zov (yab (i := 3) zci.nd rfl (Or.inl rfl) zzw)
    (zov (yac rfl rfl (fun _ _ hpo => (zt4 (ztz (zzs (k := 4) (ps := ["self", "pot"]) rfl (zzy 0) (zvc (T := ⟨K, ca⟩) (c := 8) Xt.cl_Book Xt.me_Book_due_of (zcx Xt) (by decide) ybj) (hr.mono (by decide)) (ztg (zzy 1) zzi))))) (.cons rfl (by decide) (.inl Xt.m_NoDeed) (yfo (zuf Xt.e_BookError_NoDeed (zuf Xt.e_NoStand_NoDeed (zuf Xt.e_NoDeed_NoDeed yan)))) (fun _ => (zt4 (yab (i := 3) zci.nd rfl (Or.inl rfl) (yfc (zv1 rfl) yju (zzy 3) zzw)))) .nil))
    (zov (yac rfl rfl (fun _ _ hpo => (zt4 (ztz (zzs (k := 4) (ps := ["self", "pot"]) rfl (zzy 0) (zvc (T := ⟨K, ca⟩) (c := 8) Xt.cl_Book Xt.me_Book_told (zfa Xt) (by decide) ybj) (hr.mono (by decide)) (ztg (zzy 1) zzi))))) (.cons rfl (by decide) (.inl Xt.m_NoDeed) (yfo (zuf Xt.e_BookError_NoDeed (zuf Xt.e_NoStand_NoDeed (zuf Xt.e_NoDeed_NoDeed yan)))) (fun _ => (zt4 (yab (i := 3) zci.nd rfl (Or.inl rfl) (yfc (zv1 rfl) yju (zzy 3) zzw)))) .nil))
    (zov (yac rfl rfl (fun _ _ hpo => (zt4 (ztz (zzs (k := 4) (ps := ["self", "pot"]) rfl (zzy 0) (zvc (T := ⟨K, ca⟩) (c := 8) Xt.cl_Book Xt.me_Book_shown_for (zax Xt) (by decide) ybj) (hr.mono (by decide)) (ztg (zzy 1) zzi))))) (.cons rfl (by decide) (.inl Xt.m_NoDeed) (yfo (zuf Xt.e_BookError_NoDeed (zuf Xt.e_NoStand_NoDeed (zuf Xt.e_NoDeed_NoDeed yan)))) (fun _ => (zt4 (yab (i := 3) zci.nd rfl (Or.inl rfl) (yfc (zv1 rfl) yju (zzy 3) zzw)))) .nil))
    (zov (yac rfl rfl (fun _ _ hpo => (zt4 (ztz (zzs (k := 4) (ps := ["self", "pot", "word"]) rfl (zzy 0) (zvc (T := ⟨K, ca⟩) (c := 8) Xt.cl_Book Xt.me_Book_show (ze9 Xt) (by decide) ybj) (hr.mono (by decide)) (ztg (zzy 1) (ztg zzn zzi)))))) (.cons rfl (by decide) (.inl Xt.m_NoDeed) (yfo (zuf Xt.e_BookError_NoDeed (zuf Xt.e_NoStand_NoDeed (zuf Xt.e_NoDeed_NoDeed yan)))) (fun _ => (zt4 (yab (i := 3) zci.nd rfl (Or.inl rfl) (yfc (zv1 rfl) yju (zzy 3) zzw)))) .nil))
    (zov (yac rfl rfl (fun _ _ hpo => (zt4 (ztz (zzs (k := 5) (ps := ["self", "hand"]) rfl (zzy 0) (zvc (T := ⟨K, ca⟩) (c := 8) Xt.cl_Book Xt.me_Book_coin_of (zb3 Xt) (by decide) ybj) (hr.mono (by decide)) (ztg (zzy 2) zzi))))) (.cons rfl (by decide) (.inl Xt.m_NoDeed) (yfo (zuf Xt.e_BookError_NoDeed (zuf Xt.e_NoStand_NoDeed (zuf Xt.e_NoDeed_NoDeed yan)))) (fun _ => (zt4 (yab (i := 3) zci.nd rfl (Or.inl rfl) (yfc (zv1 rfl) yju (zzy 3) zzw)))) .nil))
    (zt4 (yaa (zzk (yb8 (hu9 hr)) yju (zzy 3) zzw (ybo _))))))))))))
abbrev ygy : Stmt := top 62
noncomputable def yfm : Ev -> M Fl :=
  (yjp (yjq 1 (eFn 1 f__law_pots [] (yej (yif 0) yhx)))
  (yjp (sIf (eT (yh9 oEq (yh9 yi2 (yh9 yiw (eFn 2 f__law_cell_at [] (yej (yif 0) (yej (eC (.int 0)) yhx))) (eC (.int 3))) (eC (.int 4))) (eC (.int 1)))) (yjq 1 (yh9 yi7 (eSl (yif 1) none (some (eC (.int 1)))) (ye2 yi1 (yej (yif 1) yhx)))) yjm)
  (yjp (yjq 2 (ye4 8 2 f_Book___init__ (yej (yif 1) yhx)))
  (yjp (yjl (yjw (eSl (yif 0) (some (eC (.int 4))) (some (eC (.int 44))))) (tgN 3) (yjp (yjk (eFn 3 f__law_try [] (yej (yif 2) (yej (yif 1) (yej (yif 3) yhx)))))
  (yjp (yjq 4 (yic (yej (eC (.int 0)) (yej (eC (.int 0)) (yej (eC (.int 0)) (yej (eC (.int 0)) yhx))))))
  (yjp (yjq 5 (eC (.int 0)))
  (yjp (yjl (yjv (ye2 yi1 (yej (yif 1) yhx))) (tgN 6) (yjp (sAsg (yh9 oIx (yif 1) (yif 6)) (tgT 5 (ydx (tgN 7) (ydx (tgN 8) (ydx (tgN 9) (ydx (tgN 10) (ydx (tgN 11) yhc)))))))
  (yjp (yjq 12 (eFn 4 f__law_due [] (yej (yif 2) (yej (yif 6) (yej (yh9 yis (yif 9) (yif 10)) (yej (yif 11) yhx))))))
  (yjp (sIf (bOr (eT (yh9 oNe (yid [(8, f_Book_due_of)] 2 "due_of" (yif 2) (yej (yif 6) yhx)) (yif 12))) (yh0 (eT (eUn (yiy .tuple) (yid [(8, f_Book_due_of)] 2 "due_of" (yif 2) (yej (yif 6) yhx)))))) (yjo (eC (.bl false))) yjm)
  (yjp (ygx (yh9 yis (yh9 oIx (yif 4) (yif 7)) (yh9 oIx (yif 12) (eC (.int 0)))) (yif 4) (yif 7))
  (yjp (ygx (yh9 yis (yh9 oIx (yif 4) (yif 8)) (yh9 oIx (yif 12) (eC (.int 1)))) (yif 4) (yif 8))
  (yjq 5 (yh9 yis (yif 5) (yh9 oIx (yif 12) (eC (.int 2)))))))))))
  (sIf (bOr (eT (yh9 oNe (yia (eLC (yjv (eC (.int 4))) [2] (tgN 0) yeo (yid [(8, f_Book_coin_of)] 2 "coin_of" (yif 1) (yej (yif 0) yhx)))) (yif 4))) (eT (yh9 oNe (yid [(8, f_Book_is_over)] 1 "is_over" (yif 2) yhx) (yh9 oEq (yif 5) (eC (.int 0)))))) (yjo (eC (.bl false))) yjm))))))
  (yjo (ye2 yit (yej (yia (yib (yjw (eLv (yej (yie (yej (ye2 yi1 (yej (yif 1) yhx)) (yej (eC (.int 4)) yhx))) (yej (yie (yej (eUn yi4 (eC (.int 1))) (yej (eUn yi4 (eC (.int 1))) yhx))) (yej (yie (yej (eC (.int 7)) (yej (eC (.int 100)) yhx))) (yej (yie (yej (eUn yi4 (ye2 yi1 (yej (yif 1) yhx))) (yej (eUn yi4 (eC (.int 4))) yhx))) yhx)))))) [2] (tgT 2 (ydx (tgN 0) (ydx (tgN 1) yhc))) yeo (eFn 3 f__law_refused [] (yej (yif 2) (yej (yif 0) (yej (yif 1) yhx)))))) yhx)))))))
noncomputable def f_law : List D -> M D := run 13 yfm
theorem ydf : FnScope ["_law_script", "_law_pots_here", "_law_book", "_law_cell", "_law_coins", "_law_hanging", "_law_k", "_law_left", "_law_right", "_law_one", "_law_other", "_law_wait", "_law_due_here"] ["_law_script"] (znx ygy) := ⟨rfl, rfl, rfl, by decide +kernel, rfl, by decide +kernel, by decide +kernel⟩
theorem zyj : BD "law" "law" ygy ["_law_script"] :=
  fun _ _ _ _ _ _ us hl => match us, hl with | [_], _ => rfl
theorem yb0 (Xt : Txt K mg ca) : OkL ⟨K, ca⟩ P w mg 12 "law" ["_law_script"] f_law :=
  yb2 Xt.f_law ydf fun _ _ _ _ _ _ _ _ hr =>
    (zov (yab (i := 1) ydf.nd rfl (Or.inl rfl) (zoa (zfd Xt) rfl (hr.mono (by decide)) rfl (ztg (zzy 0) zzi)))
    (zov (yfi (yad (yb8 (hu9 hr)) yju (yfc yca zxt (yfc zv3 zxq (zoa (zb6 Xt) rfl (hr.mono (by decide)) rfl (ztg (zzy 0) (ztg zzn zzi))) zzn) zzn) zzn (ybo _)) (zt4 (yab (i := 1) ydf.nd rfl (Or.inl rfl) (yfc zv5 yju (zog rfl (zzy 1) ztt (ztu zzn)) (zn9 zev (zxs rfl) rfl Xt.n_len PySem.boot_len (ztg (zzy 1) zzi))))) zt3)
    (zov (yab (i := 2) ydf.nd rfl (Or.inr rfl) (ztk (c := 8) (ps := ["self", "pots"]) ⟨_, Xt.m_Book, Xt.mk_Book, zbe Xt⟩ rfl (hr.mono (by decide)) rfl (ztg (zzy 1) zzi)))
    (zov (zz9 zl9 rfl (zz0 rfl (zog rfl (zzy 0) (ztu zzn) (ztu zzn))) (zto (i := 3) ydf.nd rfl (Or.inl rfl)) (zov (ztz (zoa (zg1 Xt) rfl (hr.mono (by decide)) rfl (ztg (zzy 2) (ztg (zzy 1) (ztg (zzy 3) zzi)))))
    (zov (yab (i := 4) ydf.nd rfl (Or.inl rfl) (zzr (ztg zzn (ztg zzn (ztg zzn (ztg zzn zzi))))))
    (zov (yab (i := 5) ydf.nd rfl (Or.inl rfl) zzn)
    (zov (zz9 zl9 rfl (zoj rfl Xt.n_range (zn9 zev (zxs rfl) rfl Xt.n_len PySem.boot_len (ztg (zzy 1) zzi))) (zto (i := 6) ydf.nd rfl (Or.inl rfl)) (zov (zz5 (ye9 yil (ydq rfl) (zzy 1) (zzy 6) (fun _ _ => rfl)) (zzz rfl (zoi (zto (i := 7) ydf.nd rfl (Or.inl rfl)) (zoi (zto (i := 8) ydf.nd rfl (Or.inl rfl)) (zoi (zto (i := 9) ydf.nd rfl (Or.inl rfl)) (zoi (zto (i := 10) ydf.nd rfl (Or.inl rfl)) (zoi (zto (i := 11) ydf.nd rfl (Or.inl rfl)) ztp)))))))
    (zov (yab (i := 12) ydf.nd rfl (Or.inl rfl) (zoa (zg0 Xt) rfl (hr.mono (by decide)) rfl (ztg (zzy 2) (ztg (zzy 6) (ztg (yfc (zv1 rfl) yju (zzy 9) (zzy 10)) (ztg (zzy 11) zzi))))))
    (zov (yfi (L2.PW.pt (yfj (yad (ycc (hu9 hr)) yju (zzs (k := 4) (ps := ["self", "pot"]) rfl (zzy 2) (zvc (T := ⟨K, ca⟩) (c := 8) Xt.cl_Book Xt.me_Book_due_of (zcx Xt) (by decide) ybj) (hr.mono (by decide)) (ztg (zzy 6) zzi)) (zzy 12) (ybo _)) (yai (yae (yaf (zzo .tuple (zzs (k := 4) (ps := ["self", "pot"]) rfl (zzy 2) (zvc (T := ⟨K, ca⟩) (c := 8) Xt.cl_Book Xt.me_Book_due_of (zcx Xt) (by decide) ybj) (hr.mono (by decide)) (ztg (zzy 6) zzi)) rfl Xt.n_isinstance rfl Xt.n_tuple boot_tuple)))))) (zt4 (yaa ye8)) zt3)
    (zov (zt2 (yfc (zv1 rfl) yju (ye9 yil (ydq rfl) (zzy 4) (zzy 7) (fun _ _ => rfl)) (ye9 yil (ydq rfl) (zzy 12) zzn (fun _ _ => rfl))) (zzy 4) (zzy 7))
    (zov (zt2 (yfc (zv1 rfl) yju (ye9 yil (ydq rfl) (zzy 4) (zzy 8) (fun _ _ => rfl)) (ye9 yil (ydq rfl) (zzy 12) zzn (fun _ _ => rfl))) (zzy 4) (zzy 8))
    (zt4 (yab (i := 5) ydf.nd rfl (Or.inl rfl) (yfc (zv1 rfl) yju (zzy 5) (ye9 yil (ydq rfl) (zzy 12) zzn (fun _ _ => rfl)))))))))))
    (zt4 (yfi (L2.PW.pt (yfj (yad (ycc (hu9 hr)) yju (zzm (yfa (x := "_law_hand") (M' := ["_law_book"]) (ix := [2]) rfl ⟨rfl, rfl, rfl, rfl, rfl, rfl⟩ (zoj rfl Xt.n_range zzn) (fun _ _ _ _ _ => zto (i := 0) (by show List.Nodup (("_law_hand" :: ["_law_book"]) : List Str); decide +kernel) rfl (Or.inl rfl)) (fun _ _ _ _ _ => ztr) (fun _ _ _ _ _ => (zzs (k := 5) (ps := ["self", "hand"]) rfl (zzy 1) (zvc (T := ⟨K, ca⟩) (c := 8) Xt.cl_Book Xt.me_Book_coin_of (zb3 Xt) (by decide) ybj) (hr.mono (by decide)) (ztg (zzy 0) zzi))))) (zzy 4) (ybo _)) (yai (yad (ycc (hu9 hr)) yju (ztm (k := 5) (ps := ["self"]) rfl (zzy 2) (zvc (T := ⟨K, ca⟩) (c := 8) Xt.cl_Book Xt.me_Book_is_over (zb4 Xt) (by decide) ybj) (hr.mono (by decide))) (zzk (yb8 (hu9 hr)) yju (zzy 5) zzn (ybo _)) (ybo _))))) (zt4 (yaa ye8)) zt3)))))))
    (zt4 (yaa (zn9 (zng rfl) (zxn rfl) rfl Xt.n_all boot_all (ztg (zzm (zzq (x := "_law_pot") (z0 := "_law_hand") (M' := ["_law_book"]) (ix := [2]) rfl ⟨rfl, rfl, rfl, rfl, rfl, rfl⟩ (zz0 rfl (yfb (ztg (zzx (ztg (zn9 zev (zxs rfl) rfl Xt.n_len PySem.boot_len (ztg (zzy 1) zzi)) (ztg zzn zzi))) (ztg (zzx (ztg (yfd yd5 zxv zzn) (ztg (yfd yd5 zxv zzn) zzi))) (ztg (zzx (ztg zzn (ztg zzn zzi))) (ztg (zzx (ztg (yfd yd5 zxv (zn9 zev (zxs rfl) rfl Xt.n_len PySem.boot_len (ztg (zzy 1) zzi))) (ztg (yfd yd5 zxv zzn) zzi))) zzi)))))) (fun _ _ _ _ _ => zzz rfl (zoi (zto (i := 0) (by show List.Nodup (("_law_pot" :: "_law_hand" :: ["_law_book"]) : List Str); decide +kernel) rfl (Or.inl rfl)) (zoi (zto (i := 1) (by show List.Nodup (("_law_pot" :: "_law_hand" :: ["_law_book"]) : List Str); decide +kernel) rfl (Or.inl rfl)) ztp))) (fun _ _ _ _ _ => ztr) (fun _ _ _ _ _ => (zoa (zb7 Xt) rfl (hr.mono (by decide)) rfl (ztg (zzy 2) (ztg (zzy 0) (ztg (zzy 1) zzi))))))) zzi))))))))
end
end K15
namespace K15
open PySem L2 L4
set_option maxHeartbeats 4000000
def yeu (ns : List Int) (k : Nat) : Int := ns.getD k 0
theorem zsj (ns : List Int) (k : Int) (hk : 0 <= k) (σ : Sto) : f__law_cell_at [.scr ns, .int k] σ = .ok (.int (yeu ns k.toNat)) σ := by
  unfold f__law_cell_at zct yeu
  by_cases h : k < ns.length
  · simp [h, zvu hk h]
  · have e : ns.length <= k.toNat := by omega
    simp [h, List.getElem?_eq_none e]
def mixW (c k : Int) : Int :=
  if c % 2 = 0 then Builtin.bitAnd (c / 2 / 2 ^ (41 * k).toNat) 2199023255551
  else ((c % 2147483647 + 7919 * k + 1) * 48271 % 2147483647 * ((c % 2147483647 + 7919 * k + 1) * 48271 % 2147483647 / 1009 + 69621) % 2147483647) *
    ((c % 2147483647 + 7919 * k + 1) * 48271 % 2147483647 * ((c % 2147483647 + 7919 * k + 1) * 48271 % 2147483647 / 1009 + 69621) % 2147483647 / 4099 + 16807 + k) % 2147483629
theorem zu9 (c k : Int) (hk : 0 <= k) (σ : Sto) : f__law_mixed [.int c, .int k] σ = .ok (.int (mixW c k)) σ := by
  unfold f__law_mixed ze3 mixW
  by_cases h : c % 2 = 0
  · rw [if_pos h]
    simp [h, zvy (zys (i := 41) (j := k) (by decide) (by decide)), show 0 <= 41 * k by omega]
  · rw [if_neg h]
    have b1 : ∀ z y : Int, yh1 (z % 2147483647) y = true := fun z y => zys (by omega) (by omega)
    have b2 : ∀ z : Int, yh1 z 48271 = true := fun z => zyt (by decide) (by decide)
    have b3 : yh1 7919 k = true := zys (by decide) (by decide)
    have hb : (c % 2 == 0) = false := by simpa using h
    simp [hb, zvy, b1, b2, b3]
theorem ybh : ∃ f : Int -> Int -> Int, ∀ c k : Int, 0 <= k -> ∀ σ, f__law_mixed [.int c, .int k] σ = .ok (.int (f c k)) σ := ⟨mixW, zu9⟩
noncomputable def yiq : Int -> Int -> Int := ybh.choose
theorem ybg (c k : Int) (hk : 0 <= k) (σ : Sto) : f__law_mixed [.int c, .int k] σ = .ok (.int (yiq c k)) σ := ybh.choose_spec c k hk σ
structure Ti where
  p : Int
  a : Int
  w : Int
  d : Int
def Ti.D (t : Ti) : L4.D := .tup [.int t.p, .int t.a, .int t.w, .int t.d]
structure Ti.Ok (t : Ti) : Prop where
  p1 : 0 <= t.p
  p2 : t.p <= 1
  a1 : 1 <= t.a
  a2 : t.a <= 1000000000000
  w1 : 0 <= t.w
  w2 : t.w <= 59
  d1 : 0 <= t.d
  d2 : t.d <= 1000000
@[simp] theorem Ti.cl (t : Ti) : L4.cl t.D = true := by simp [Ti.D]
@[simp] theorem Ti.clL (ts : List Ti) : L4.clL (ts.map Ti.D) = true := zsm Ti.cl
structure TsOk (ts : List Ti) : Prop where
  ok : ∀ t ∈ ts, t.Ok
  nd : (ts.map (·.w)).Nodup
  len : ts.length <= 6
theorem zm8 (i : Int) (σ : Sto) : f_is_whole [.int i] σ = .ok (.bl true) σ := by unfold f_is_whole zih; simp
theorem zsi (i a b : Int) (σ : Sto) : f_is_between [.int i, .int a, .int b] σ = .ok (.bl (decide (a <= i) && decide (i <= b))) σ := by
  unfold f_is_between ze6
  cases h : decide (a <= i) <;> simp [zm8, h]
theorem zq8 (i : Int) (σ : Sto) : f_is_side [.int i] σ = .ok (.bl (decide (0 <= i) && decide (i <= 1))) σ := by unfold f_is_side zk3; simp [zsi]
theorem zhy (i : Int) (σ : Sto) : f_is_amount [.int i] σ = .ok (.bl (decide (1 <= i) && decide (i <= 1000000000000))) σ := by unfold f_is_amount zgo; simp [zsi]
theorem zsy (i : Int) (σ : Sto) : f_is_day [.int i] σ = .ok (.bl (decide (0 <= i) && decide (i <= 1000000))) σ := by unfold f_is_day zow; simp [zsi]
theorem zry (i : Int) (σ : Sto) : f_is_word [.int i] σ = .ok (.bl (decide (0 <= i) && decide (i <= 59))) σ := by unfold f_is_word zk4; simp [zsi]
theorem zi1 (i : Int) (σ : Sto) : f_is_number [.int i] σ = .ok (.bl (decide (0 <= i) && decide (i <= 1000000))) σ := by unfold f_is_number zgp; simp [zsi]
def yjy (t : Ti) : Bool := (decide (0 <= t.p) && decide (t.p <= 1)) && ((decide (1 <= t.a) && decide (t.a <= 1000000000000)) && ((decide (0 <= t.w) && decide (t.w <= 59)) && (decide (0 <= t.d) && decide (t.d <= 1000000))))
theorem zrj (t : Ti) : yjy t = true ↔ t.Ok := by
  simp only [yjy, Bool.and_eq_true, decide_eq_true_eq]
  exact ⟨fun h => ⟨h.1.1, h.1.2, h.2.1.1, h.2.1.2, h.2.2.1.1, h.2.2.1.2, h.2.2.2.1, h.2.2.2.2⟩, fun h => ⟨⟨h.p1, h.p2⟩, ⟨h.a1, h.a2⟩, ⟨h.w1, h.w2⟩, h.d1, h.d2⟩⟩
theorem ydz (t : Ti) (σ : Sto) : f_is_tie [t.D] σ = .ok (.bl (yjy t)) σ := by
  unfold f_is_tie zoy Ti.D yjy
  simp [zq8, zhy, zry, zsy]
  cases h1 : (decide (0 <= t.p) && decide (t.p <= 1)) <;> simp [zhy, h1]
  cases h2 : (decide (1 <= t.a) && decide (t.a <= 1000000000000)) <;> simp [zry, h2]
  cases h3 : (decide (0 <= t.w) && decide (t.w <= 59)) <;> simp [zsy, h3]
def yhe (ts : List Ti) : Bool := decide (ts.length <= 6) && (ts.all yjy && decide (ts.map (·.w)).Nodup)
theorem zm4 (ts : List Ti) : yhe ts = true ↔ TsOk ts := by
  simp only [yhe, Bool.and_eq_true, decide_eq_true_eq, List.all_eq_true]
  exact ⟨fun h => ⟨fun t ht => (zrj t).mp (h.2.1 t ht), h.2.2, h.1⟩, fun h => ⟨h.len, fun t ht => (zrj t).mpr (h.ok t ht), h.nd⟩⟩
theorem zuv {ρ : Ev} {σ : Sto} {i : Nat} {ix : List Nat} {ts : List Ti} (hl : ts.length <= 1000) (h : yif i ρ σ = .ok (.tup (ts.map Ti.D)) σ) :
    yia (eLC (yjw (yif i)) [] (tgN 0) yeo (yh9 oIx (yif 0) (eC (.int 2)))) ρ σ = .ok (.lst ((ts.map (·.w)).map D.int)) σ := by
  have := ya3 (ix := []) (fe := yh9 oIx (yif 0) (eC (.int 2))) (ds := ts.map Ti.D) (ρ := ρ) (σ := σ) (src := yjw (yif i)) (fun d => match d with | .tup [_, _, w, _] => w | _ => .non) (by simp [h]) (by simpa using hl) (fun d hd j => by obtain ⟨t, _, rfl⟩ := List.mem_map.mp hd; simp [Ti.D]) (fun d hd => by obtain ⟨t, _, rfl⟩ := List.mem_map.mp hd; simp [Ti.D])
  rw [this, List.map_map, List.map_map]; rfl
theorem zrk (ts : List Ti) (σ : Sto) : f_are_ties [.tup (ts.map Ti.D)] σ = .ok (.bl (yhe ts)) σ := by
  unfold f_are_ties zie yhe
  by_cases hl : ts.length <= 6
  · have l1 : yia (eLC (yjw (yif 0)) [] (tgN 0) yeo (eFn 1 f_is_tie [] (yej (yif 0) yhx))) [some (.tup (ts.map Ti.D))] σ = .ok (.lst (ts.map fun t => D.bl (yjy t))) σ := by
      have := ya3 (ix := []) (fe := eFn 1 f_is_tie [] (yej (yif 0) yhx)) (ds := ts.map Ti.D) (ρ := [some (.tup (ts.map Ti.D))]) (σ := σ) (src := yjw (yif 0)) (fun d => match d with | .tup [.int p, .int a, .int w, .int d] => .bl (yjy ⟨p, a, w, d⟩) | _ => .non) (by simp) (by simp; omega) (fun d hd j => by obtain ⟨t, _, rfl⟩ := List.mem_map.mp hd; simp [ydz]; rfl) (fun d hd => by obtain ⟨t, _, rfl⟩ := List.mem_map.mp hd; simp [Ti.D])
      rw [this, List.map_map]; rfl
    have l2 := zuv (ρ := [some (.tup (ts.map Ti.D))]) (σ := σ) (i := 0) (ix := []) (ts := ts) (by omega) (by simp)
    have hb : (decide ((ts.length : Int) > 6)) = false := by simp; omega
    have l3 := ze8 (σ := σ) (l := ts.map (·.w)) (by simp; omega)
    have l4 : ((ddp (ts.map (·.w))).length : Int) = (ts.length : Int) ↔ (ts.map (·.w)).Nodup := by
      have := zs0 (ts.map (·.w)); rwa [List.length_map] at this
    have l5 : (((ddp (ts.map (·.w))).length : Int) == (ts.length : Int)) = decide (ts.map (·.w)).Nodup := by
      rw [Bool.eq_iff_iff]; simpa using l4
    have ha := zp1 (σ := σ) (f := yjy) (l := ts)
    simp only [zud, zz4, yc9, zw3, ydb, zyi, zsc, eT_ap, zzb, zn0, List.map_cons, List.map_nil, List.length_cons, List.length_nil, List.cons_append, List.nil_append, List.replicate, Nat.reduceAdd, Nat.reduceSub, zzc, zse, zp4, yd1, zvl, Bool.not_true, ifK_f, zs7, zm9, zr1, zj3, znt, zp5, zsd, ye1, oB_ap, List.length_map, hb, yd6, zw2, zw9, l1, ha]
    cases h2 : ts.all yjy with
    | false => simp
    | true => simp [l2, l3, l5, hl, -List.map_map, -zs8]
  · have hb : (decide ((ts.length : Int) > 6)) = true := by simp; omega
    have hb' : decide (ts.length <= 6) = false := by simpa using hl
    have hb2 : decide ((6 : Int) < (ts.length : Int)) = true := by simp; omega
    simp [hb', hb2]
def stB (n a b : Int) (ts : List Ti) : Bool := (decide (0 <= n) && decide (n <= 1000000)) && (((decide (0 <= a) && decide (a <= 2000000000000)) && (decide (0 <= b) && decide (b <= 2000000000000))) && yhe ts)
def stD (n a b : Int) (ts : List Ti) : D := .tup [.int n, .tup [.int a, .int b], .tup (ts.map Ti.D)]
@[simp] theorem stD_cl (n a b : Int) (ts : List Ti) : cl (stD n a b ts) = true := by simp [stD]
theorem zjs (a b : Int) (σ : Sto) : f_are_shares [.tup [.int a, .int b]] σ = .ok (.bl ((decide (0 <= a) && decide (a <= 2000000000000)) && (decide (0 <= b) && decide (b <= 2000000000000)))) σ := by
  unfold f_are_shares ze4
  simp [zsi]
  cases h1 : (decide (0 <= a) && decide (a <= 2000000000000)) <;> simp [zsi, h1]
theorem zrh (n a b : Int) (ts : List Ti) (σ : Sto) : f_is_stand [stD n a b ts] σ = .ok (.bl (stB n a b ts)) σ := by
  unfold f_is_stand zif stD stB
  simp [zi1]
  cases h1 : (decide (0 <= n) && decide (n <= 1000000)) <;> simp [zjs]
  cases h2 : ((decide (0 <= a) && decide (a <= 2000000000000)) && (decide (0 <= b) && decide (b <= 2000000000000))) <;> simp [zrk]
theorem zqb (i : Int) (σ : Sto) : f_other_side [.int i] σ = .ok (.int (1 - i)) σ := by unfold f_other_side ze7; simp
noncomputable abbrev ydl : Ev -> M Fl := (yjp (yjq 6 (eFn 2 f__law_mixed [] (yej (yh9 yiw (yif 0) (eC (.int 7))) (yej (yif 5) yhx))))
  (yjp (yjq 7 (ye2 yge (yej (yif 2) (yej (yh9 yis (eC (.int 1)) (yh9 yi2 (yh9 yiw (yif 6) (eC (.int 7))) (yh9 oIx (eLv (yej (eC (.int 9)) (yej (yh9 yis (eC (.int 1)) (yif 1)) yhx))) (yh9 yiw (yh9 yi2 (yif 6) (eC (.int 7))) (eC (.int 6)))))) yhx))))
  (yjp (yjq 8 (yh9 yi2 (yh9 yiw (yif 6) (eC (.int 70))) (eC (.int 12))))
  (sIf (yhz (eT (yh9 oGt (yif 7) (eC (.int 0)))) (eT (yh9 (oIn true) (yif 8) (yif 4)))) (yjp (yjk (ye5 zvn (yif 4) (yej (yif 8) yhx)))
  (yjp (yjq 2 (yh9 yi8 (yif 2) (yif 7)))
  (yjq 3 (yh9 yis (yif 3) (yie (yej (yie (yej (yh9 yi2 (yh9 yiw (yif 6) (eC (.int 840))) (eC (.int 2))) (yej (yif 7) (yej (yif 8) (yej (yh9 yi2 (yh9 yiw (yif 6) (eC (.int 1680))) (eC (.int 30))) yhx))))) yhx)))))) yjm))))
structure Sm (left whole : Int) (ts : List Ti) : Prop where
  l0 : 0 <= left
  l1 : left + (ts.map (·.a)).sum = whole
  ok : ∀ t ∈ ts, (0 <= t.p /\ t.p <= 1) /\ 1 <= t.a /\ (0 <= t.w /\ t.w <= 11) /\ (0 <= t.d /\ t.d <= 29)
  nd : (ts.map (·.w)).Nodup
theorem mod9 (m whole : Int) (h : 0 <= whole) (σ : Sto) : ∃ z : Int, 0 < z /\ oIx (.lst [.int 9, .int (1 + whole)]) (.int (m % 7 / 6)) σ = .ok (.int z) σ := by
  have h2 : m % 7 / 6 = 0 \/ m % 7 / 6 = 1 := by omega
  rcases h2 with h2 | h2
  · exact ⟨9, by decide, by rw [h2]; exact zvt (show atI _ ((0 : Nat) : Int) = _ from zr9 rfl)⟩
  · exact ⟨1 + whole, by omega, by rw [h2]; exact zvt (show atI _ ((1 : Nat) : Int) = _ from zr9 rfl)⟩
theorem zjv (c whole left k : Int) (ts : List Ti) (σ : Sto) (x6 x7 x8 x9 : Option D) (hk : 0 <= k) (hw : 0 <= whole) (hS : Sm left whole ts) (hl : ts.length <= 100) :
    ∃ left' ts' y6 y7 y8, Sm left' whole ts' /\ ts'.length <= ts.length + 1 /\ ydl [some (.int c), some (.int whole), some (.int left), some (.tup (ts.map Ti.D)), some (.ref σ.length), some (.int k), x6, x7, x8, x9] (σ ++ [.lst ((ts.map (·.w)).map D.int)])
      = .ok (.nx [some (.int c), some (.int whole), some (.int left'), some (.tup (ts'.map Ti.D)), some (.ref σ.length), some (.int k), y6, y7, y8, x9]) (σ ++ [.lst ((ts'.map (·.w)).map D.int)]) := by
  have m1 := ybg (c / 7) k hk
  generalize yiq (c / 7) k = m at m1
  obtain ⟨z, hz, ez⟩ := mod9 m whole hw (σ ++ [.lst ((ts.map (·.w)).map D.int)])
  have om := zvx (σ := σ ++ [.lst ((ts.map (·.w)).map D.int)]) (m / 7) z hz
  have hq := Int.emod_nonneg (m / 7) (show z ≠ 0 by omega)
  generalize m / 7 % z = q at *
  have e := zp3 (σ := σ ++ [.lst ((ts.map (·.w)).map D.int)]) (neg := true) (w := m / 70 % 12) (x := .ref σ.length) (ws := ts.map (·.w)) (by simp)
  have a := zhz (σ := σ) (xs := (ts.map (·.w)).map D.int) (d := .int (m / 70 % 12)) (by simp; omega)
  have a2 : (ts.map (·.w)).map D.int ++ [D.int (m / 70 % 12)] = ((ts ++ [Ti.mk (m / 840 % 2) (min left (1 + q)) (m / 70 % 12) (m / 1680 % 30)]).map (·.w)).map D.int := by simp
  have ad : ∀ σ : Sto, yis (.tup (ts.map Ti.D)) (.tup [.tup [.int (m / 840 % 2), .int (min left (1 + q)), .int (m / 70 % 12), .int (m / 1680 % 30)]]) σ = .ok (.tup ((ts ++ [Ti.mk (m / 840 % 2) (min left (1 + q)) (m / 70 % 12) (m / 1680 % 30)]).map Ti.D)) σ := fun σ => by
    rw [zp0 (by simp [cap]; omega), List.map_append]; rfl
  rw [a2] at a
  have mn := zp6 (σ := σ ++ [.lst ((ts.map (·.w)).map D.int)]) left (1 + q)
  have hl0 := hS.l0
  by_cases h1 : min left (1 + q) > 0
  · cases h2 : (ts.map (·.w)).any (· == m / 70 % 12)
    · refine ⟨left - min left (1 + q), ts ++ [Ti.mk (m / 840 % 2) (min left (1 + q)) (m / 70 % 12) (m / 1680 % 30)], some (.int m), some (.int (min left (1 + q))), some (.int (m / 70 % 12)), ⟨by omega, ?_, ?_, ?_⟩, by simp, ?_⟩
      · have := hS.l1; simp only [List.map_append, List.map_cons, List.map_nil, List.sum_append, List.sum_cons, List.sum_nil]; omega
      · intro t ht
        rcases List.mem_append.mp ht with ht | ht
        · exact hS.ok t ht
        · rw [List.mem_singleton.mp ht]; dsimp only; omega
      · rw [List.map_append, List.nodup_append]
        refine ⟨hS.nd, by simp, fun x hx y hy exy => ?_⟩
        have hy' : y = m / 70 % 12 := by simpa using hy
        have h3 := List.any_eq_false.mp h2 x hx
        rw [exy, hy'] at h3; simp at h3
      · rw [h2] at e
        have hd : decide (min left (1 + q) > 0) = true := by simpa using h1
        have hd2 : decide (0 < min left (1 + q)) = true := hd
        generalize min left (1 + q) = am at *
        generalize (ts.map (·.w)).map D.int = G at *
        generalize ((ts ++ [Ti.mk (m / 840 % 2) am (m / 70 % 12) (m / 1680 % 30)]).map (·.w)).map D.int = G' at *
        generalize (ts ++ [Ti.mk (m / 840 % 2) am (m / 70 % 12) (m / 1680 % 30)]).map Ti.D = TT at *
        simp [m1, ez, om, mn, -zp6, hd2, e, a, ad]
    · refine ⟨left, ts, some (.int m), some (.int (min left (1 + q))), some (.int (m / 70 % 12)), hS, by omega, ?_⟩
      rw [h2] at e
      have hd2 : decide (0 < min left (1 + q)) = true := by simpa using h1
      generalize min left (1 + q) = am at *
      generalize (ts.map (·.w)).map D.int = G at *
      simp [m1, ez, om, mn, -zp6, hd2, e]
  · refine ⟨left, ts, some (.int m), some (.int (min left (1 + q))), some (.int (m / 70 % 12)), hS, by omega, ?_⟩
    have hd2 : decide (0 < min left (1 + q)) = false := by simpa using h1
    generalize min left (1 + q) = am at *
    generalize (ts.map (·.w)).map D.int = G at *
    simp [m1, ez, om, mn, -zp6, hd2]
theorem zju (c whole : Int) (hw : 0 <= whole) (σ : Sto) : ∀ (n i : Nat) (left : Int) (ts : List Ti) (x5 x6 x7 x8 x9 : Option D), Sm left whole ts -> ts.length + n <= 100 ->
    ∃ left' ts' y5 y6 y7 y8, Sm left' whole ts' /\ ts'.length <= ts.length + n /\ yin (tgN 5) ydl ((List.range' i n).map fun (k : Nat) => D.int k) [some (.int c), some (.int whole), some (.int left), some (.tup (ts.map Ti.D)), some (.ref σ.length), x5, x6, x7, x8, x9] (σ ++ [.lst ((ts.map (·.w)).map D.int)])
      = .ok (.nx [some (.int c), some (.int whole), some (.int left'), some (.tup (ts'.map Ti.D)), some (.ref σ.length), y5, y6, y7, y8, x9]) (σ ++ [.lst ((ts'.map (·.w)).map D.int)]) := by
  intro n
  induction n with
  | zero => intro i left ts x5 x6 x7 x8 x9 h _; exact ⟨left, ts, x5, x6, x7, x8, h, by omega, by rw [List.range'_zero, List.map_nil, zpm]⟩
  | succ n ih =>
    intro i left ts x5 x6 x7 x8 x9 h hl
    obtain ⟨l1, ts1, y6, y7, y8, s1, s2, e1⟩ := zjv c whole left (i : Int) ts σ x6 x7 x8 x9 (by omega) hw h (by omega)
    obtain ⟨l2, ts2, w5, w6, w7, w8, s3, s4, e2⟩ := ih (i + 1) l1 ts1 (some (.int i)) y6 y7 y8 x9 s1 (by omega)
    refine ⟨l2, ts2, w5, w6, w7, w8, s3, by omega, ?_⟩
    rw [List.range'_succ, List.map_cons, zpn, <- e2]
    simp only [List.set_cons_succ, List.set_cons_zero]
    rw [e1, zse, zpl]
theorem zra (c whole : Int) (hw : 0 <= whole) (σ : Sto) : ∃ (a b : Int) (ts : List Ti), (0 <= a /\ 0 <= b) /\ a + b + (ts.map (·.a)).sum = whole /\ ts.length <= 6 /\ (∃ l, Sm l whole ts) /\ f__law_small_stand [.int c, .int whole] σ = .ok (stD (c / 7 % 7) a b ts) σ := by
  have hm : 0 <= c % 7 /\ c % 7 < 7 := by omega
  obtain ⟨left, ts, y5, y6, y7, y8, hS, hl, e⟩ := zju c whole hw σ (c % 7).toNat 0 whole [] none none none none none ⟨hw, by simp, (fun t h => by cases h), List.nodup_nil⟩ (by simp; omega)
  simp only [List.map_nil] at e
  rw [<- zmg] at e
  have h0 := hS.l0
  have m9 := fun σ => ybg (c / 7) 9 (by decide) σ
  generalize yiq (c / 7) 9 = q at m9
  have om := zvx (σ := σ ++ [.lst ((ts.map (·.w)).map D.int)]) q (left + 1) (by omega)
  have b1 := Int.emod_nonneg q (show left + 1 ≠ 0 by omega)
  have b2 := Int.emod_lt_of_pos q (show 0 < left + 1 by omega)
  generalize q % (left + 1) = sh at *
  refine ⟨sh, left - sh, ts, by omega, by have := hS.l1; omega, by simp at hl; omega, ⟨left, hS⟩, ?_⟩
  unfold f__law_small_stand zaj stD
  simp only [zud, zz4, yc9, zw3, zw4, zs9, ztb, zr1, zse, ybb, yd3, yd6, zxc, zw9, List.map_cons, List.map_nil, List.length_cons, List.length_nil, List.cons_append, List.nil_append, List.set_cons_succ, List.set_cons_zero, List.replicate, Nat.reduceAdd, Nat.reduceSub, zzc, zzd]
  rw [zw1]
  have hs : yjv (yh9 yi2 (yif 0) (eC (.int 7))) [some (.int c), some (.int whole), some (.int whole), some (.tup []), some (.ref σ.length), none, none, none, none, none] (σ ++ [.lst []]) = .ok (.seq (yc7 (c % 7).toNat)) (σ ++ [.lst []]) := by
    simp [zwx (j := c % 7) (by omega) (by omega)]
  rw [hs, yd6, zop, e, zse, zw9]
  have hcl : cl (.tup [.int (c / 7 % 7), .tup [.int sh, .int (left - sh)], .tup (ts.map Ti.D)]) = true := by simp
  generalize (ts.map (·.w)).map D.int = G at *
  generalize ts.map Ti.D = TT at *
  simp [m9, om]
  exact zor hcl
@[simp] theorem zza (f : Ev -> M D) (lo hi : PF) (ρ : Ev) (σ : Sto) : eSl f lo hi ρ σ = (f ρ σ).bind (sl0K (ye6 lo ρ) (ye6 hi ρ)) := nr rfl
@[simp] theorem zxj (lo hi : M (Option Int)) (x : D) (σ : Sto) : sl0K lo hi x σ = (lo σ).bind (sl1K x hi) := nr rfl
@[simp] theorem zxk (x : D) (hi : M (Option Int)) (lo : Option Int) (σ : Sto) : sl1K x hi lo σ = (hi σ).bind (yjt x lo) := nr rfl
@[simp] theorem ePart_n (ρ : Ev) (σ : Sto) : ye6 none ρ σ = .ok none σ := nr rfl
@[simp] theorem zta (f : Ev -> M D) (ρ : Ev) (σ : Sto) : ye6 (some f) ρ σ = (f ρ σ).bind ygl := nr rfl
@[simp] theorem zv8 (i : Int) (σ : Sto) : ygl (.int i) σ = .ok (some i) σ := nr rfl
theorem btw_no {x : D} (h : ∀ σ, f_is_whole [x] σ = .ok (.bl false) σ) (a b : D) (σ : Sto) : f_is_between [x, a, b] σ = .ok (.bl false) σ := by unfold f_is_between ze6; simp [h]
inductive Th where
  | strike (p s n : Int)
  | agree (p s n a b : Int) (ts : List Ti)
  | word (n : Int)
  | none_
def thD : Th -> D
  | .strike p s n => .tup [.str "strike", .int p, .int s, .int n]
  | .agree p s n a b ts => .tup [.str "agree", .int p, .int s, stD n a b ts]
  | .word n => .tup [.str "word", .int n]
  | .none_ => .non
def pB3 (p s : Int) : Bool := (decide (0 <= p) && decide (p <= 2)) && (decide (0 <= s) && decide (s <= 1))
def yik : Th -> Bool
  | .strike p s n => pB3 p s && (decide (0 <= n) && decide (n <= 1000000))
  | .agree p s n a b ts => pB3 p s && stB n a b ts
  | .word n => decide (0 <= n) && decide (n <= 59)
  | .none_ => false
theorem zwj (i : Int) (σ : Sto) : f_is_pot [.int i] σ = .ok (.bl (decide (0 <= i) && decide (i <= 2))) σ := by unfold f_is_pot zox; simp [zsi]
theorem ybx (x : D) (p s : Int) (y : D) (σ : Sto) : f_is_of_a_side [.tup [x, .int p, .int s, y]] σ = .ok (.bl (pB3 p s)) σ := by
  unfold f_is_of_a_side zcw pB3
  cases h : (decide (0 <= p) && decide (p <= 2)) <;> simp [zwj, zq8, h]
theorem sw : (("strike" : Str) == "word") = false := by decide
theorem aw : (("agree" : Str) == "word") = false := by decide
theorem as_ : (("agree" : Str) == "strike") = false := by decide
theorem yhd (t : Th) (σ : Sto) : f_is_thing [thD t] σ = .ok (.bl (yik t)) σ := by
  unfold f_is_thing zig
  cases t with
  | strike p s n =>
    simp only [thD, yik]
    have o := ybx (.str "strike") p s (.int n) σ
    cases h : pB3 p s <;> rw [h] at o <;> simp [sw, o, zi1]
  | agree p s n a b ts =>
    simp only [thD, yik]
    have o := ybx (.str "agree") p s (stD n a b ts) σ
    have i := zrh n a b ts σ
    generalize stD n a b ts = S at *
    cases h : pB3 p s <;> rw [h] at o <;> simp [aw, as_, o, i]
  | word n => simp only [thD, yik]; simp [zry]
  | none_ => simp only [thD, yik]; simp
theorem zom {P Q : Int} (hP : 0 <= P /\ P <= 2000000000000) (hQ : 0 <= Q /\ Q <= 2000000000000) (σ : Sto) : f_first [.int P, .int Q] σ = .ok (stD 0 P Q []) σ /\ stB 0 P Q [] = true := by
  have hb : stB 0 P Q [] = true := by
    simp only [stB, yhe, Bool.and_eq_true, decide_eq_true_eq]
    exact ⟨by omega, ⟨hP, hQ⟩, by simp, by simp, by simp⟩
  refine ⟨?_, hb⟩
  have is := zrh 0 P Q [] σ
  rw [hb] at is
  have s : f_stand [.int 0, .tup [.int P, .int Q], .non] σ = .ok (stD 0 P Q []) σ := by
    unfold f_stand zt9
    unfold stD at is ⊢
    simp only [List.map_nil] at is ⊢
    simp [is]
  unfold f_first zt8
  simp [s]
def tot (ts : List Ti) : Int := (ts.map (·.a)).sum
theorem ybv (a b : Int) (σ : Sto) : yi9 [.tup [.int a, .int b]] σ = .ok (.int (a + b)) σ := by
  simp [yi9, yaq]
theorem zl3 (l : List Int) (σ : Sto) : yi9 [.lst (l.map D.int)] σ = .ok (.int l.sum) σ := by
  simp [yi9]
theorem znw (n a b : Int) (ts : List Ti) (hl : ts.length <= 6) (σ : Sto) : f_deals [stD n a b ts] σ = .ok (.int (a + b + tot ts)) σ := by
  have i2 : ∀ σ, oIx (stD n a b ts) (.int 2) σ = .ok (.tup (ts.map Ti.D)) σ := fun σ => by simp [stD]
  have i1 : ∀ σ, oIx (stD n a b ts) (.int 1) σ = .ok (.tup [.int a, .int b]) σ := fun σ => by simp [stD]
  have l := ya3 (ix := []) (fe := yh9 oIx (yif 0) (eC (.int 1))) (ds := ts.map Ti.D) (ρ := [some (stD n a b ts)]) (σ := σ) (src := yjw (yh9 oIx (yif 0) (eC (.int 2)))) (fun d => match d with | .tup [_, a, _, _] => a | _ => .non) (by simp [i2]) (by simp; omega) (fun d hd j => by obtain ⟨t, _, rfl⟩ := List.mem_map.mp hd; simp [Ti.D]) (fun d hd => by obtain ⟨t, _, rfl⟩ := List.mem_map.mp hd; simp [Ti.D])
  have l' : yia (eLC (yjw (yh9 oIx (yif 0) (eC (.int 2)))) [] (tgN 0) yeo (yh9 oIx (yif 0) (eC (.int 1)))) [some (stD n a b ts)] σ = .ok (.lst ((ts.map (·.a)).map D.int)) σ := by
    rw [l, List.map_map, List.map_map]; rfl
  unfold f_deals zt7
  generalize stD n a b ts = S at *
  have o := zl3 (ts.map (·.a)) σ
  generalize (ts.map (·.a)).map D.int = G at *
  simp [i1, l', ybv, o, tot, -zs8]
def LD (w s n a b : Int) (ts : List Ti) (d t : Int) : D := .obj 6 ["whole", "side", "stand", "day", "wait"] [.int w, .int s, stD n a b ts, .int d, .int t]
theorem zh5 (c : Nat) (hc : [4, 5, 6, 7].contains c = true) (w : D) (σ : Sto) : f_Claim___init__ [.ref σ.length, w] (σ ++ [.ins c []]) = .ok .non (σ ++ [.ins c [("whole", w)]]) := by
  unfold f_Claim___init__ zbc
  have := zmf (ρ := [some (.ref σ.length), some w]) (σ := σ) (cs := [4, 5, 6, 7]) (f := "whole") (d := w) (c := c) (fs := []) hc (by simp)
  simp [this, yjc]
theorem zli (w s S d t : D) (σ : Sto) : f_Laid___init__ [.ref σ.length, w, s, S, d, t] (σ ++ [.ins 6 []]) = .ok .non (σ ++ [.ins 6 [("whole", w), ("side", s), ("stand", S), ("day", d), ("wait", t)]]) := by
  have c := zh5 6 rfl w σ
  have e := fun (cs : List Nat) (hc : cs.contains 6 = true) (f : Str) (v : D) (fs : List (Str × D)) (hl : fs.length < 1000) => zmf (ρ := [some (.ref σ.length), some w, some s, some S, some d, some t]) (σ := σ) (cs := cs) (f := f) (d := v) (c := 6) (fs := fs) hc hl
  have p1 : yjc "side" s [("whole", w)] = ([("whole", w), ("side", s)] : List (Str × D)) := rfl
  have p2 : yjc "stand" S [("whole", w), ("side", s)] = ([("whole", w), ("side", s), ("stand", S)] : List (Str × D)) := rfl
  have p3 : yjc "day" d [("whole", w), ("side", s), ("stand", S)] = ([("whole", w), ("side", s), ("stand", S), ("day", d)] : List (Str × D)) := rfl
  have p4 : yjc "wait" t [("whole", w), ("side", s), ("stand", S), ("day", d)] = ([("whole", w), ("side", s), ("stand", S), ("day", d), ("wait", t)] : List (Str × D)) := rfl
  unfold f_Laid___init__ zb0
  simp [c, e, p1, p2, p3, p4]
theorem zjy (w s : D) (σ : Sto) : f_Taken___init__ [.ref σ.length, w, s] (σ ++ [.ins 7 []]) = .ok .non (σ ++ [.ins 7 [("whole", w), ("side", s)]]) := by
  have c := zh5 7 rfl w σ
  have e := fun (cs : List Nat) (hc : cs.contains 7 = true) (f : Str) (v : D) (fs : List (Str × D)) (hl : fs.length < 1000) => zmf (ρ := [some (.ref σ.length), some w, some s]) (σ := σ) (cs := cs) (f := f) (d := v) (c := 7) (fs := fs) hc hl
  have p1 : yjc "side" s [("whole", w)] = ([("whole", w), ("side", s)] : List (Str × D)) := rfl
  unfold f_Taken___init__ zbd
  simp [c, e, p1]
section
variable (w s n a b : Int) (ts : List Ti) (d t : Int) (σ : Sto)
theorem ya7 : yfp σ (LD w s n a b ts d t) = some (6, ([("whole", .int w), ("side", .int s), ("stand", stD n a b ts), ("day", .int d), ("wait", .int t)] : List (Str × D))) := zk8 rfl
theorem zux : yix [6, 7] "side" (LD w s n a b ts d t) σ = .ok (.int s) σ := zvq (ya7 ..) rfl rfl
theorem zpe : yix [6] "stand" (LD w s n a b ts d t) σ = .ok (stD n a b ts) σ := zvq (ya7 ..) rfl rfl
theorem ya6 : yix [6, 8] "day" (LD w s n a b ts d t) σ = .ok (.int d) σ := zvq (ya7 ..) rfl rfl
theorem zuy : yix [6] "wait" (LD w s n a b ts d t) σ = .ok (.int t) σ := zvq (ya7 ..) rfl rfl
theorem zpf (y : Int) : f_Laid_waits [LD w s n a b ts d t, .int y] σ = .ok (.bl (decide (y < d + t))) σ := by
  unfold f_Laid_waits ze1
  have h1 := fun σ => ya6 w s n a b ts d t σ
  have h2 := fun σ => zuy w s n a b ts d t σ
  generalize LD w s n a b ts d t = L at *
  simp [h1, h2]
theorem zlk (fs : M (List D)) : yir [(6, f_Laid_waits)] 2 "waits" fs (LD w s n a b ts d t) σ = (fs σ).bind (yf3 2 f_Laid_waits (LD w s n a b ts d t)) := zvg (ya7 ..) rfl rfl
end
theorem zlq (w s n a b : Int) (ts : List Ti) (d t : Int) (σ : Sto) : yig σ (yfz 6 6 f_Laid___init__ [.int w, .int s, stD n a b ts, .int d, .int t] σ) = .ok (LD w s n a b ts d t) σ := by
  rw [zu7, zli, zpy, zos (by simp)]; rfl
theorem zlp (w : Int) (σ : Sto) : yig σ (yfz 5 2 f_Claim___init__ [.int w] σ) = .ok (.obj 5 ["whole"] [.int w]) σ := by
  rw [zu5, zh5 5 rfl, zpy, zos (by simp)]; rfl
theorem ziv (w s : Int) (σ : Sto) : yig σ (yfz 7 3 f_Taken___init__ [.int w, .int s] σ) = .ok (.obj 7 ["whole", "side"] [.int w, .int s]) σ := by
  rw [zu6, zjy, zpy, zos (by simp)]; rfl
def shD (l : List (Int × Int)) : D := .dic (l.map fun p => .inl p.1) (l.map fun p => .int p.2)
def kvI (l : List (Int × Int)) : List (Key × D) := l.map fun p => (.inl p.1, .int p.2)
@[simp] theorem ydi (l : List (Int × Int)) : cl (shD l) = true := by unfold shD cl; exact zsm fun _ => by simp
theorem zsz (l : List (Int × Int)) (σ : Sto) : yh7 σ (shD l) = some (kvI l) := by
  unfold yh7 shD kvI
  dsimp only
  rw [if_pos (by simp)]
  congr 1
  induction l with
  | nil => rfl
  | cons p l ih => simp only [List.map_cons, List.zip_cons_cons, ih]
def val (l : List (Int × Int)) (w : Int) : Option Int := (l.find? fun p => decide (p.1 = w)).map (·.2)
theorem zok (w : Int) : ∀ (l : List (Int × Int)), yfe (kvI l) (.inl w) = (val l w).map D.int
  | [] => rfl
  | p :: l => by
    have ih := zok w l
    unfold yfe kvI val at *
    rw [List.map_cons, List.find?_cons, List.find?_cons]
    by_cases e : p.1 = w
    · simp [e]
    · have e2 : ¬ (Sum.inl p.1 : Key) = Sum.inl w := fun z => e (Sum.inl.inj z)
      simp only [e, e2, decide_false] at ih ⊢
      exact ih
def yje (l : List (Int × Int)) (w v : Int) : List (Int × Int) := if l.any (fun p => decide (p.1 = w)) then l.map fun p => if p.1 = w then (p.1, v) else p else l ++ [(w, v)]
theorem zqn (l : List (Int × Int)) (w v : Int) : (yje l w v).length <= l.length + 1 := by unfold yje; split <;> simp
theorem zme (l : List (Int × Int)) (w v : Int) : ygn (kvI l) (.inl w) (.int v) = kvI (yje l w v) := by
  have ha : ((kvI l).any fun kv => decide (kv.1 = (Sum.inl w : Key))) = l.any fun p => decide (p.1 = w) := by
    unfold kvI
    rw [List.any_map]
    congr 1
    funext p
    simp
  unfold ygn yje
  rw [ha]
  split
  · unfold kvI
    rw [List.map_map, List.map_map]
    congr 1
    funext p
    simp only [Function.comp]
    by_cases e : p.1 = w
    · simp [e]
    · have e2 : ¬ (Sum.inl p.1 : Key) = Sum.inl w := fun z => e (Sum.inl.inj z)
      simp [e]
  · unfold kvI; rw [List.map_append]; rfl
def upA (s a x : Int) : Int := if s = 0 then a + x else a
def upB (s b x : Int) : Int := if s = 0 then b else b + x
theorem zpt (a b s x : Int) (σ : Sto) : f_with_more [.tup [.int a, .int b], .int s, .int x] σ = .ok (.tup [.int (upA s a x), .int (upB s b x)]) σ := by
  unfold f_with_more zgq upA upB
  by_cases h : s = 0
  · subst h; simp
  · have hb : (s == 0) = false := by simpa using h
    simp [hb, h]
def inT (l : List (Int × Int)) (t : Ti) : Bool := match val l t.w with | some v => decide (v < t.d) | none => false
theorem ix2 (t : Ti) (σ : Sto) : oIx t.D (.int 2) σ = .ok (.int t.w) σ := by unfold Ti.D; simp
theorem ix3 (t : Ti) (σ : Sto) : oIx t.D (.int 3) σ = .ok (.int t.d) σ := by unfold Ti.D; simp
theorem ix0 (t : Ti) (σ : Sto) : oIx t.D (.int 0) σ = .ok (.int t.p) σ := by unfold Ti.D; simp
theorem ix1 (t : Ti) (σ : Sto) : oIx t.D (.int 1) σ = .ok (.int t.a) σ := by unfold Ti.D; simp
def yih (l : List (Int × Int)) (y : Int) (t : Ti) : Option Int := if inT l t then some (1 - t.p) else if y ≥ t.d then some t.p else none
def sA (l : List (Int × Int)) (y : Int) : List Ti -> Int
  | [] => 0
  | t :: ts => (if yih l y t = some 0 then t.a else 0) + sA l y ts
def sB (l : List (Int × Int)) (y : Int) : List Ti -> Int
  | [] => 0
  | t :: ts => (match yih l y t with | some s => if s = 0 then 0 else t.a | none => 0) + sB l y ts
def sH (l : List (Int × Int)) (y : Int) : List Ti -> Int
  | [] => 0
  | t :: ts => (match yih l y t with | some _ => 0 | none => t.a) + sH l y ts
theorem sABH (l : List (Int × Int)) (y : Int) : ∀ ts : List Ti, sA l y ts + sB l y ts + sH l y ts = (ts.map (·.a)).sum
  | [] => by simp [sA, sB, sH]
  | t :: ts => by
    have := sABH l y ts
    simp only [sA, sB, sH, List.map_cons, List.sum_cons]
    cases h : yih l y t with
    | none => simp; omega
    | some s =>
      by_cases h0 : s = 0
      · subst h0; simp; omega
      · simp [h0]; omega
noncomputable abbrev cmB : Ev -> M Fl := (yjp (yjq 5 (eFn 3 f_side_due [] (yej (yif 4) (yej (yif 1) (yej (yif 2) yhx)))))
  (sIf (eT (yh9 ygf (yif 5) (eC .non))) (yjq 3 (eFn 3 f_with_more [] (yej (yif 3) (yej (yif 5) (yej (yh9 oIx (yif 4) (eC (.int 1))) yhx))))) yjm))
theorem sum2 (a b : Int) (σ : Sto) : yi9 [.tup [.int a, .int b]] σ = .ok (.int (a + b)) σ := by simp [yi9, yaq]
noncomputable def dueD (l : List (Int × Int)) (y w d t a b : Int) (ts : List Ti) : List Int := if y < d + t then [0, 0, w] else [a + sA l y ts, b + sB l y ts, sH l y ts]
theorem zpg (w s n a b : Int) (ts : List Ti) (d t : Int) (σ : Sto) : yix [4, 5, 6, 7] "whole" (LD w s n a b ts d t) σ = .ok (.int w) σ := zvq (ya7 ..) rfl rfl
section
variable {SD : D} {l : List (Int × Int)} {σ : Sto} (hS : yh7 σ SD = some (kvI l))
include hS
theorem dinS (w : Int) : yiu (.int w) SD σ = .ok (.bl (val l w).isSome) σ := by
  unfold yiu
  simp only [yim, hS, zok]
  cases val l w <;> rfl
theorem dgetS {w v : Int} (h : val l w = some v) : yga SD (.int w) σ = .ok (.int v) σ := by
  unfold yga
  simp only [yim, hS, zok, h]
  rfl
theorem zk9 (t : Ti) : f_shown_in_time [t.D, SD] σ = .ok (.bl (inT l t)) σ := by
  have i2 := fun σ => ix2 t σ
  have i3 := fun σ => ix3 t σ
  have di := dinS hS t.w
  unfold f_shown_in_time zb1 inT
  cases h : val l t.w with
  | none =>
    rw [h] at di
    generalize t.D = TD at *
    simp [i2, di]
  | some v =>
    have dg := dgetS hS h
    rw [h] at di
    generalize t.D = TD at *
    simp [i2, i3, di, dg]
theorem zxi (y : Int) (t : Ti) : f_side_due [t.D, .int y, SD] σ = .ok (match yih l y t with | some s => .int s | none => .non) σ := by
  have it := zk9 hS t
  have i0 := fun σ => ix0 t σ
  have i3 := fun σ => ix3 t σ
  unfold f_side_due zii yih
  cases h : inT l t
  · rw [h] at it
    by_cases h2 : y ≥ t.d
    · have hb : decide (t.d <= y) = true := by simpa using h2
      generalize t.D = TD at *
      simp [it, i0, i3, hb, h2]
    · have hb : decide (t.d <= y) = false := by simpa using h2
      generalize t.D = TD at *
      simp [it, i0, i3, hb, h2]
  · rw [h] at it
    generalize t.D = TD at *
    simp [it, i0, zqb]
theorem zsr (L : D) (y : Int) : ∀ (ts : List Ti) (a b : Int) (x4 x5 : Option D), ∃ y4 y5, yin (tgN 4) cmB (ts.map Ti.D) [some L, some (.int y), some SD, some (.tup [.int a, .int b]), x4, x5] σ
    = .ok (.nx [some L, some (.int y), some SD, some (.tup [.int (a + sA l y ts), .int (b + sB l y ts)]), y4, y5]) σ
  | [], a, b, x4, x5 => ⟨x4, x5, by simp [sA, sB]⟩
  | t :: ts, a, b, x4, x5 => by
    have sd := zxi hS y t
    have i1 := ix1 t σ
    cases h : yih l y t with
    | none =>
      rw [h] at sd
      obtain ⟨y4, y5, e⟩ := zsr L y ts a b (some t.D) (some .non)
      refine ⟨y4, y5, ?_⟩
      have h1 : a + sA l y (t :: ts) = a + sA l y ts := by simp [sA, h]
      have h2 : b + sB l y (t :: ts) = b + sB l y ts := by simp [sB, h]
      rw [h1, h2, <- e, List.map_cons, zpn]
      generalize t.D = TD at *
      simp [sd]
    | some s =>
      rw [h] at sd
      obtain ⟨y4, y5, e⟩ := zsr L y ts (upA s a t.a) (upB s b t.a) (some t.D) (some (.int s))
      refine ⟨y4, y5, ?_⟩
      have h1 : a + sA l y (t :: ts) = upA s a t.a + sA l y ts := by
        simp only [sA, h, upA, Option.some.injEq]; split <;> omega
      have h2 : b + sB l y (t :: ts) = upB s b t.a + sB l y ts := by
        simp only [sB, h, upB]; split <;> omega
      have m := zpt a b s t.a σ
      rw [h1, h2, <- e, List.map_cons, zpn]
      generalize upA s a t.a = UA at *
      generalize upB s b t.a = UB at *
      generalize t.D = TD at *
      simp [sd, i1, m]
theorem zns (w s n a b : Int) (ts : List Ti) (d t : Int) (hw : a + b + (ts.map (·.a)).sum = w) (y : Int) :
    f_Laid_comes [LD w s n a b ts d t, .int y, SD] σ = .ok (.tup ((dueD l y w d t a b ts).map D.int)) σ := by
  have h1 := fun σ => zpg w s n a b ts d t σ
  have h2 := fun σ => zpe w s n a b ts d t σ
  have h3 := fun fs σ => zlk w s n a b ts d t σ fs
  have h4 := fun σ => zpf w s n a b ts d t σ y
  have i1 : ∀ σ, oIx (stD n a b ts) (.int 1) σ = .ok (.tup [.int a, .int b]) σ := fun σ => by simp [stD]
  have i2 : ∀ σ, oIx (stD n a b ts) (.int 2) σ = .ok (.tup (ts.map Ti.D)) σ := fun σ => by simp [stD]
  have ab := sABH l y ts
  unfold f_Laid_comes ze0 dueD
  by_cases hy : y < d + t
  · have hb : decide (y < d + t) = true := by simpa using hy
    rw [hb] at h4
    rw [if_pos hy]
    generalize LD w s n a b ts d t = L at *
    simp [h1, h3, h4]
  · have hb : decide (y < d + t) = false := by simpa using hy
    rw [hb] at h4
    rw [if_neg hy]
    obtain ⟨y4, y5, e⟩ := zsr hS (LD w s n a b ts d t) y ts a b none none
    have eH : w - (a + sA l y ts + (b + sB l y ts)) = sH l y ts := by omega
    generalize LD w s n a b ts d t = L at *
    generalize stD n a b ts = ST at *
    generalize sA l y ts = SA at *
    generalize sB l y ts = SB at *
    generalize sH l y ts = SH at *
    generalize ts.map Ti.D = TT at *
    simp [h1, h2, h3, h4, i1, i2, e, sum2, eH]
end
theorem zlj (w s n a b : Int) (ts : List Ti) (d t : Int) (σ : Sto) : f_Laid_told [LD w s n a b ts d t] σ = .ok (.tup [.str "laid", .int s, stD n a b ts, .int d]) σ := by
  have h1 := fun σ => zux w s n a b ts d t σ
  have h2 := fun σ => zpe w s n a b ts d t σ
  have h3 := fun σ => ya6 w s n a b ts d t σ
  have hc : cl (stD n a b ts) = true := by simp
  unfold f_Laid_told zgl
  generalize LD w s n a b ts d t = L at *
  generalize stD n a b ts = S at *
  simp [h1, h2, h3, hc]
theorem zk6 (x : D) (σ : Sto) : f_Held_told [x] σ = .ok (.tup [.str "held"]) σ := by unfold f_Held_told zgk; simp
theorem zim (w : Int) (y s : D) (σ : Sto) : f_Held_comes [.obj 5 ["whole"] [.int w], y, s] σ = .ok (.tup [.int 0, .int 0, .int w]) σ := by
  have h : ∀ σ, yix [4, 5, 6, 7] "whole" (.obj 5 ["whole"] [.int w]) σ = .ok (.int w) σ := fun σ => zvq (zk8 rfl) rfl rfl
  unfold f_Held_comes zez
  generalize D.obj 5 ["whole"] [.int w] = O at *
  simp [h]
theorem zjz (w s : Int) (σ : Sto) : f_Taken_told [.obj 7 ["whole", "side"] [.int w, .int s]] σ = .ok (.tup [.str "taken", .int s]) σ := by
  have h : ∀ σ, yix [6, 7] "side" (.obj 7 ["whole", "side"] [.int w, .int s]) σ = .ok (.int s) σ := fun σ => zvq (zk8 rfl) rfl rfl
  unfold f_Taken_told ze2
  generalize D.obj 7 ["whole", "side"] [.int w, .int s] = O at *
  simp [h]
theorem zhw (w s : Int) (y : D) (l : D) (σ : Sto) : f_Taken_comes [.obj 7 ["whole", "side"] [.int w, .int s], y, l] σ = .ok (.tup [.int (upA s 0 w), .int (upB s 0 w), .int 0]) σ := by
  have h : ∀ σ, yix [6, 7] "side" (.obj 7 ["whole", "side"] [.int w, .int s]) σ = .ok (.int s) σ := fun σ => zvq (zk8 rfl) rfl rfl
  have h2 : ∀ σ, yix [4, 5, 6, 7] "whole" (.obj 7 ["whole", "side"] [.int w, .int s]) σ = .ok (.int w) σ := fun σ => zvq (zk8 rfl) rfl rfl
  have m := fun σ => zpt 0 0 s w σ
  unfold f_Taken_comes zdr
  generalize D.obj 7 ["whole", "side"] [.int w, .int s] = O at *
  generalize upA s 0 w = UA at *
  generalize upB s 0 w = UB at *
  simp [h, h2, m]
theorem ztd {f g : D -> D -> Option Bool} : ∀ {xs ys : List D}, (∀ x ∈ xs, ∀ y ∈ ys, ∃ b, f x y = some b /\ g x y = some b) -> ∃ b, eqL f xs ys = some b /\ eqL g xs ys = some b
  | [], [], _ => ⟨_, rfl, rfl⟩
  | [], _ :: _, _ => ⟨_, rfl, rfl⟩
  | _ :: _, [], _ => ⟨_, rfl, rfl⟩
  | x :: xs, y :: ys, h => by
    obtain ⟨b, h1, h2⟩ := h x List.mem_cons_self y List.mem_cons_self
    obtain ⟨c, h3, h4⟩ := ztd (f := f) (g := g) (xs := xs) (ys := ys) fun a ha b hb => h a (List.mem_cons_of_mem _ ha) b (List.mem_cons_of_mem _ hb)
    unfold eqL
    rw [h1, h2, h3, h4]
    cases b <;> exact ⟨_, rfl, rfl⟩
theorem ztc (σ : Sto) : ∀ (n : Nat) (x y : D), pl n x = true -> pl n y = true -> ∃ b, eqD σ n x y = some b /\ eqD [] n x y = some b := by
  intro n
  induction n with
  | zero => intro x y hx hy; cases x <;> first | (simp [pl] at hx; done) | (cases y <;> first | exact ⟨_, rfl, rfl⟩ | (simp [pl] at hy; done))
  | succ n ih =>
    intro x y hx hy
    cases x with
    | tup xs =>
      cases y with
      | tup ys =>
        simp only [pl, List.all_eq_true] at hx hy
        exact ztd fun a ha b hb => ih a b (hx a ha) (hy b hb)
      | _ => first | exact ⟨_, rfl, rfl⟩ | (simp [pl] at hy; done)
    | lst xs =>
      cases y with
      | lst ys =>
        simp only [pl, List.all_eq_true] at hx hy
        exact ztd fun a ha b hb => ih a b (hx a ha) (hy b hb)
      | _ => first | exact ⟨_, rfl, rfl⟩ | (simp [pl] at hy; done)
    | _ => first | (simp [pl] at hx; done) | (cases y <;> first | exact ⟨_, rfl, rfl⟩ | (simp [pl] at hy; done))
structure Pt where
  (l r u v t : Int)
def Pt.D (p : Pt) : L4.D := .tup [.int p.l, .int p.r, .int p.u, .int p.v, .int p.t]
def Pt.w (p : Pt) : Int := p.u + p.v
structure Pt.Ok (p : Pt) : Prop where
  l : p.l = 0 \/ p.l = 1
  r : p.r = 2 \/ p.r = 3
  u : 0 <= p.u /\ p.u <= 1000000
  v : 0 <= p.v /\ p.v <= 1000000
  t : 1 <= p.t /\ p.t <= 6
@[simp] theorem Pt.cl (p : Pt) : L4.cl p.D = true := by simp [Pt.D]
theorem Pt.i0 (p : Pt) (σ : Sto) : oIx p.D (.int 0) σ = .ok (.int p.l) σ := by unfold Pt.D; simp
theorem Pt.i1 (p : Pt) (σ : Sto) : oIx p.D (.int 1) σ = .ok (.int p.r) σ := by unfold Pt.D; simp
theorem Pt.i2 (p : Pt) (σ : Sto) : oIx p.D (.int 2) σ = .ok (.int p.u) σ := by unfold Pt.D; simp
theorem Pt.i3 (p : Pt) (σ : Sto) : oIx p.D (.int 3) σ = .ok (.int p.v) σ := by unfold Pt.D; simp
theorem Pt.i4 (p : Pt) (σ : Sto) : oIx p.D (.int 4) σ = .ok (.int p.t) σ := zvv (show atI _ ((4 : Nat) : Int) = _ from zr9 rfl)
inductive Cl where
  | held
  | laid (s n a b : Int) (ts : List Ti) (d : Int)
  | taken (s : Int)
def Cl.D (p : Pt) : Cl -> L4.D
  | .held => .obj 5 ["whole"] [.int p.w]
  | .laid s n a b ts d => LD p.w s n a b ts d p.t
  | .taken s => .obj 7 ["whole", "side"] [.int p.w, .int s]
structure Bs where
  y : Int
  C : Nat -> Cl
  S : Nat -> List (Int × Int)
  J : Sto
def upd {α : Type} (f : Nat -> α) (i : Nat) (x : α) : Nat -> α := fun j => if j = i then x else f j
theorem upd_same {α : Type} (f : Nat -> α) (i : Nat) (x : α) : upd f i x i = x := by simp [upd]
theorem upd_ne {α : Type} (f : Nat -> α) {i j : Nat} (x : α) (h : j ≠ i) : upd f i x j = f j := by simp [upd, h]
theorem zmy {α β : Type} (n : Nat) (f : Nat -> α) (g : Nat -> α -> β) (i : Nat) (x : α) : ((List.range n).map fun j => g j (f j)).set i (g i x) = (List.range n).map fun j => g j (upd f i x j) := by
  apply List.ext_getElem?
  intro k
  rw [List.getElem?_set]
  by_cases h : i = k
  · subst h
    by_cases hk : i < n
    · simp [hk, upd_same]
    · simp [hk]
  · rw [if_neg h]
    by_cases hk : k < n
    · simp [hk, upd_ne f x (fun z => h z.symm)]
    · simp [hk]
def yja (n : Nat) (P : Nat -> Pt) : D := .lst ((List.range n).map fun i => (P i).D)
def flds (n : Nat) (P : Nat -> Pt) (y : Int) : List (Str × D) := [("pots", yja n P), ("day", .int y), ("claims", .ref 1), ("shown", .ref 2)]
def bkS (n : Nat) (P : Nat -> Pt) (B : Bs) : Sto :=
  .ins 8 (flds n P B.y) :: .lst ((List.range n).map fun i => (B.C i).D (P i)) :: .lst ((List.range n).map fun i => .ref (3 + i)) :: (((List.range n).map fun i => .dic (kvI (B.S i))) ++ B.J)
theorem ixR {n i : Nat} (f : Nat -> D) (h : i < n) : atI ((List.range n).map f) (i : Int) = some (f i) := zr9 (by simp [h])
section
variable (n : Nat) (P : Nat -> Pt) (B : Bs)
theorem zyn : yfp (bkS n P B) (.ref 0) = some (8, flds n P B.y) := rfl
theorem zsf : yix [8] "pots" (.ref 0) (bkS n P B) = .ok (yja n P) (bkS n P B) := zvq (zyn n P B) rfl rfl
theorem zyl : yix [6, 8] "day" (.ref 0) (bkS n P B) = .ok (.int B.y) (bkS n P B) := zvq (zyn n P B) rfl rfl
theorem zkc : yix [8] "claims" (.ref 0) (bkS n P B) = .ok (.ref 1) (bkS n P B) := zvq (zyn n P B) rfl rfl
theorem zne : yix [8] "shown" (.ref 0) (bkS n P B) = .ok (.ref 2) (bkS n P B) := zvq (zyn n P B) rfl rfl
theorem zyo {k : Nat} {m : Str} (f : List D -> M D) (fs : M (List D)) (h : (flds n P B.y).lookup m = none) : yir [(8, f)] k m fs (.ref 0) (bkS n P B) = (fs (bkS n P B)).bind (yf3 k f (.ref 0)) := zvg (zyn n P B) rfl h
theorem zpi (σ : Sto) : yi1 [yja n P] σ = .ok (.int n) σ := by unfold yja; simp
theorem zur {i : Nat} (h : i < n) (σ : Sto) : oIx (yja n P) (.int i) σ = .ok (P i).D σ := zvt (ixR (fun i => (P i).D) h)
theorem zle {i : Nat} (h : i < n) : oIx (.ref 1) (.int i) (bkS n P B) = .ok ((B.C i).D (P i)) (bkS n P B) := by
  have := ixR (fun i => (B.C i).D (P i)) h
  simp only [oIx, yg0, bkS, yfy, List.getElem?_cons_succ, List.getElem?_cons_zero, this]
theorem zpa {i : Nat} (h : i < n) : oIx (.ref 2) (.int i) (bkS n P B) = .ok (.ref (3 + i)) (bkS n P B) := by
  have := ixR (fun i => D.ref (3 + i)) h
  simp only [oIx, yg0, bkS, yfy, List.getElem?_cons_succ, List.getElem?_cons_zero, this]
theorem zym {i : Nat} (h : i < n) : (bkS n P B)[3 + i]? = some (.dic (kvI (B.S i))) := by
  rw [Nat.add_comm]
  unfold bkS
  simp only [List.getElem?_cons_succ]
  rw [List.getElem?_append_left (by simpa using h)]
  simp [h]
theorem yep {i : Nat} (h : i < n) : yh7 (bkS n P B) (.ref (3 + i)) = some (kvI (B.S i)) := by
  unfold yh7
  simp only [zym n P B h]
theorem zmx (i : Nat) (c : Cl) : (bkS n P B).set 1 (.lst (((List.range n).map fun i => (B.C i).D (P i)).set i (c.D (P i)))) = bkS n P { B with C := upd B.C i c } := by
  have := zmy n B.C (fun j (c : Cl) => c.D (P j)) i c
  unfold bkS
  simp only [List.set_cons_succ, List.set_cons_zero]
  rw [this]
theorem zxd {i : Nat} (hi : i < n) (l : List (Int × Int)) : (bkS n P B).set (3 + i) (.dic (kvI l)) = bkS n P { B with S := upd B.S i l } := by
  have := zmy n B.S (fun _ (l : List (Int × Int)) => Ob.dic (kvI l)) i l
  rw [Nat.add_comm]
  unfold bkS
  simp only [List.set_cons_succ]
  rw [List.set_append_left _ _ (by simpa using hi), this]
theorem zyk (j : Sto) : bkS n P B ++ j = bkS n P { B with J := B.J ++ j } := by
  unfold bkS
  simp only [List.cons_append, List.append_assoc]
end
theorem znn (n : Nat) (P : Nat -> Pt) (B : Bs) {i : Nat} (h : i < n) : f_Book_check_pot [.ref 0, .int i] (bkS n P B) = .ok .non (bkS n P B) := by
  have h1 := zsf n P B
  have h2 := zpi n P
  have hb : decide ((i : Int) <= (n : Int) - 1) = true := by simp; omega
  unfold f_Book_check_pot zba
  generalize bkS n P B = σ at *
  generalize yja n P = PL at *
  simp [h1, h2, zsi, hb]
theorem ybe (n : Nat) (P : Nat -> Pt) (B : Bs) (fs : M (List D)) : yir [(8, f_Book_check_pot)] 2 "check_pot" fs (.ref 0) (bkS n P B) = (fs (bkS n P B)).bind (yf3 2 f_Book_check_pot (.ref 0)) := zyo n P B _ _ rfl
def Cl.tl : Cl -> L4.D
  | .held => .tup [.str "held"]
  | .laid s n a b ts d => .tup [.str "laid", .int s, stD n a b ts, .int d]
  | .taken s => .tup [.str "taken", .int s]
@[simp] theorem Cl.tl_cl (c : Cl) : cl c.tl = true := by cases c <;> simp [Cl.tl]
theorem Cl.told (c : Cl) (p : Pt) (fs : M (List L4.D)) (σ : Sto) (hf : fs σ = .ok [] σ) : yir [(5, f_Held_told), (6, f_Laid_told), (7, f_Taken_told)] 1 "told" fs (c.D p) σ = .ok c.tl σ := by
  cases c with
  | held => rw [show Cl.D p .held = .obj 5 ["whole"] [.int p.w] from rfl, zvg (zk8 rfl) rfl rfl, hf, zse, zve, zk6]; rfl
  | laid s n a b ts d => rw [show Cl.D p (.laid s n a b ts d) = LD p.w s n a b ts d p.t from rfl, zvg (ya7 ..) rfl rfl, hf, zse, zve, zlj]; rfl
  | taken s => rw [show Cl.D p (.taken s) = .obj 7 ["whole", "side"] [.int p.w, .int s] from rfl, zvg (zk8 rfl) rfl rfl, hf, zse, zve, zjz]; rfl
theorem zx8 (n : Nat) (P : Nat -> Pt) (B : Bs) {i : Nat} (h : i < n) : f_Book_told [.ref 0, .int i] (bkS n P B) = .ok (B.C i).tl (bkS n P B) := by
  have h1 := znn n P B h
  have h2 := fun fs => ybe n P B fs
  have h3 := zkc n P B
  have h4 := zle n P B h
  have h5 := fun fs hf => Cl.told (B.C i) (P i) fs (bkS n P B) hf
  have hc := Cl.tl_cl (B.C i)
  unfold f_Book_told zgj
  generalize bkS n P B = σ at *
  generalize (B.C i).D (P i) = CD at *
  generalize (B.C i).tl = TL at *
  simp [h1, h2, h3, h4, h5, hc]
def duA (p : Pt) (y : Int) (l : List (Int × Int)) : Cl -> Int
  | .held => 0
  | .laid _ _ a _ ts d => if y < d + p.t then 0 else a + sA l y ts
  | .taken s => upA s 0 p.w
def duB (p : Pt) (y : Int) (l : List (Int × Int)) : Cl -> Int
  | .held => 0
  | .laid _ _ _ b ts d => if y < d + p.t then 0 else b + sB l y ts
  | .taken s => upB s 0 p.w
def duH (p : Pt) (y : Int) (l : List (Int × Int)) : Cl -> Int
  | .held => p.w
  | .laid _ _ _ _ ts d => if y < d + p.t then p.w else sH l y ts
  | .taken _ => 0
structure LOk (p : Pt) (s n a b : Int) (ts : List Ti) : Prop where
  hs : s = 0 \/ s = 1
  hn : 0 <= n /\ n <= 6
  ha : 0 <= a
  hb : 0 <= b
  hw : a + b + (ts.map (·.a)).sum = p.w
  ok : ∀ t ∈ ts, (0 <= t.p /\ t.p <= 1) /\ 1 <= t.a /\ (0 <= t.d /\ t.d <= 29)
def Cl.Ok (p : Pt) : Cl -> Prop
  | .held => True
  | .laid s n a b ts d => LOk p s n a b ts
  | .taken s => s = 0 \/ s = 1
def du3 (p : Pt) (y : Int) (l : List (Int × Int)) (c : Cl) : D := .tup [.int (duA p y l c), .int (duB p y l c), .int (duH p y l c)]
@[simp] theorem zy6 (p : Pt) (y : Int) (l : List (Int × Int)) (c : Cl) : cl (du3 p y l c) = true := by simp [du3]
theorem Cl.comes (c : Cl) (p : Pt) (hc : c.Ok p) {SD : L4.D} {l : List (Int × Int)} {σ : Sto} (hS : yh7 σ SD = some (kvI l)) (y : Int) (fs : M (List L4.D)) (hf : fs σ = .ok [.int y, SD] σ) : yir [(5, f_Held_comes), (6, f_Laid_comes), (7, f_Taken_comes)] 3 "comes" fs (c.D p) σ = .ok (du3 p y l c) σ := by
  cases c with
  | held => rw [show Cl.D p .held = .obj 5 ["whole"] [.int p.w] from rfl, zvg (zk8 rfl) rfl rfl, hf, zse, zvf, zim]; rfl
  | laid s n a b ts d =>
    rw [show Cl.D p (.laid s n a b ts d) = LD p.w s n a b ts d p.t from rfl, zvg (ya7 ..) rfl rfl, hf, zse, zvf, zns hS _ _ _ _ _ _ _ _ hc.hw]
    by_cases hy : y < d + p.t <;> simp [dueD, du3, duA, duB, duH, hy]
  | taken s => rw [show Cl.D p (.taken s) = .obj 7 ["whole", "side"] [.int p.w, .int s] from rfl, zvg (zk8 rfl) rfl rfl, hf, zse, zvf, zhw]; rfl
def Bs.du (B : Bs) (P : Nat -> Pt) (i : Nat) : D := du3 (P i) B.y (B.S i) (B.C i)
theorem zy7 (n : Nat) (P : Nat -> Pt) (B : Bs) {i : Nat} (h : i < n) (hc : (B.C i).Ok (P i)) : f_Book_due_of [.ref 0, .int i] (bkS n P B) = .ok (B.du P i) (bkS n P B) := by
  have h1 := znn n P B h
  have h2 := fun fs => ybe n P B fs
  have h3 := zkc n P B
  have h4 := zle n P B h
  have h6 := zyl n P B
  have h7 := zne n P B
  have h8 := zpa n P B h
  have h5 := fun fs hf => Cl.comes (B.C i) (P i) hc (yep n P B h) B.y fs hf
  have hcl := zy6 (P i) B.y (B.S i) (B.C i)
  unfold f_Book_due_of zdp Bs.du
  generalize bkS n P B = σ at *
  generalize (B.C i).D (P i) = CD at *
  generalize du3 (P i) B.y (B.S i) (B.C i) = TL at *
  simp [h1, h2, h3, h4, h6, h7, h8, h5, hcl]
@[simp] theorem sFAug_ap (cs : List Nat) (f : Str) (fv fo : Ev -> M D) (ρ : Ev) (σ : Sto) : ygu cs f fv fo ρ σ = xsO ρ (yem ρ cs f fv) (fo ρ σ) := yhi ..
theorem zi0 (n : Nat) (P : Nat -> Pt) (B : Bs) : f_Book_next_day [.ref 0] (bkS n P B) = .ok .non (bkS n P { B with y := B.y + 1 }) := by
  have h : ∀ ρ : Ev, yem ρ [6, 8] "day" (eC (.int 1)) (.ref 0) (bkS n P B) = .ok (.nx ρ) (bkS n P { B with y := B.y + 1 }) := fun ρ => rfl
  unfold f_Book_next_day zbz
  generalize bkS n P B = σ at *
  generalize bkS n P { B with y := B.y + 1 } = σ' at *
  simp [h]
def shw (l : List (Int × Int)) (w y : Int) : List (Int × Int) := match val l w with
  | some _ => l
  | none => yje l w y
@[simp] theorem sSetD_ap (f fo fi : Ev -> M D) (ρ : Ev) (σ : Sto) : ygw f fo fi ρ σ = xsO ρ (yg1 ρ fo fi) (f ρ σ) := yhi ..
@[simp] theorem setD1_ap (fo fi : Ev -> M D) (d : D) (ρ : Ev) (σ : Sto) : yg1 ρ fo fi d σ = xsO ρ (yg2 ρ fi d) (fo ρ σ) := yhi ..
@[simp] theorem setD2_ap (fi : Ev -> M D) (d x : D) (ρ : Ev) (σ : Sto) : yg2 ρ fi d x σ = xsO ρ (yg3 ρ d x) (fi ρ σ) := yhi ..
theorem zq3 (n : Nat) (P : Nat -> Pt) (B : Bs) {i : Nat} (h : i < n) (w v : Int) (hl : (B.S i).length < 1000) (ρ : Ev) : yg3 ρ (.int v) (.ref (3 + i)) (.int w) (bkS n P B) = .ok (.nx ρ) (bkS n P { B with S := upd B.S i (yje (B.S i) w v) }) := by
  unfold yg3
  simp only [yim, zym n P B h]
  rw [if_pos (show (kvI (B.S i)).length < cap by unfold kvI; simpa [cap] using hl), zme, zxd n P B h]
theorem dninS {SD : D} {l : List (Int × Int)} {σ : Sto} (hS : yh7 σ SD = some (kvI l)) (w : Int) : zvo (.int w) SD σ = .ok (.bl (!(val l w).isSome)) σ := by
  unfold zvo
  simp only [yim, hS, zok]
  cases val l w <;> rfl
theorem zrq {α : Type} (f : Nat -> α) (i : Nat) : upd f i (f i) = f := by
  funext j
  by_cases h : j = i
  · rw [h, upd_same]
  · rw [upd_ne f _ h]
theorem zxg (n : Nat) (P : Nat -> Pt) (B : Bs) {i : Nat} (h : i < n) (w : Int) (hw : 0 <= w /\ w <= 59) (hl : (B.S i).length < 1000) :
    f_Book_show [.ref 0, .int i, .int w] (bkS n P B) = .ok .non (bkS n P { B with S := upd B.S i (shw (B.S i) w B.y) }) := by
  have h1 := znn n P B h
  have h2 := fun fs => ybe n P B fs
  have h6 := zyl n P B
  have h7 := zne n P B
  have h8 := zpa n P B h
  have h9 := dninS (yep n P B h) w
  have hb : decide (0 <= w) = true := by simpa using hw.1
  have hb2 : decide (w <= 59) = true := by simpa using hw.2
  have h10 := fun ρ => zq3 n P B h w B.y hl ρ
  unfold f_Book_show zgi shw
  cases hv : val (B.S i) w with
  | none =>
    rw [hv] at h9
    generalize bkS n P B = σ at *
    simp [h1, h2, h6, h7, h8, h9, zry, hb, hb2, h10]
  | some v =>
    rw [hv] at h9
    simp only [zrq]
    rw [show bkS n P { y := B.y, C := B.C, S := B.S, J := B.J } = bkS n P B from rfl]
    generalize bkS n P B = σ at *
    simp [h1, h2, h6, h7, h8, h9, zry, hb, hb2]
theorem zex (s : Int) (hs : s = 0 \/ s = 1) (σ : Sto) : f_check_side [.int s] σ = .ok .non σ := by
  unfold f_check_side ze5
  rcases hs with rfl | rfl <;> simp [zq8]
theorem zrx (p : Pt) (σ : Sto) : f_whole_of [p.D] σ = .ok (.int p.w) σ := by
  have h2 := fun σ => p.i2 σ
  have h3 := fun σ => p.i3 σ
  unfold f_whole_of zij Pt.w
  generalize p.D = D at *
  simp [h2, h3]
theorem zq4 (n : Nat) (P : Nat -> Pt) (B : Bs) {i : Nat} (h : i < n) (c : Cl) (ρ : Ev) : yg6 ρ (c.D (P i)) (.ref 1) (.int i) (bkS n P B) = .ok (.nx ρ) (bkS n P { B with C := upd B.C i c }) := by
  unfold yg6 ygg
  have e : ixN ((List.range n).map fun i => (B.C i).D (P i)).length (i : Int) = some i := by
    unfold ixN
    rw [List.length_map, List.length_range, if_pos (by omega), if_pos (by omega)]; simp
  have l : yfy (bkS n P B) 1 = some ((List.range n).map fun i => (B.C i).D (P i)) := rfl
  simp only [l, e, zmx]
theorem zx5 (n a b : Int) (ts : List Ti) (w : Int) (hst : stB n a b ts = true) (hl : ts.length <= 6) (hw : a + b + (ts.map (·.a)).sum = w) (σ : Sto) : f_is_stand_of [stD n a b ts, .int w] σ = .ok (.bl true) σ := by
  have h1 := zrh n a b ts
  have h2 := znw n a b ts hl
  rw [hst] at h1
  unfold tot at h2
  rw [hw] at h2
  unfold f_is_stand_of zds
  generalize stD n a b ts = S at *
  simp [h1, h2]
theorem zvp {x y : D} (hx : pl 8 x = true) (hy : pl 8 y = true) : ∃ b, ∀ σ, oEq x y σ = .ok (.bl b) σ := by
  obtain ⟨b, _, h⟩ := ztc [] 8 x y hx hy
  refine ⟨b, fun σ => ?_⟩
  obtain ⟨c, h1, h2⟩ := ztc σ 8 x y hx hy
  rw [h] at h2
  cases h2
  exact ybr h1
theorem yg9 (n a b : Int) (ts : List Ti) : pl 8 (stD n a b ts) = true := by simp [pl, stD, Ti.D]
def agD (p s : Int) (S : D) : D := .tup [.str "agree", .int p, .int s, S]
theorem zj4 (i : Nat) (hi : i <= 2) (s n a b : Int) (hs : s = 0 \/ s = 1) (ts : List Ti) (hst : stB n a b ts = true) (σ : Sto) :
    f_is_agreed [.int i, .int s, stD n a b ts, agD i (1 - s) (stD n a b ts)] σ = .ok (.bl true) σ := by
  have h1 := fun σ => yhd (.agree i (1 - s) n a b ts) σ
  have h2 : yik (.agree i (1 - s) n a b ts) = true := by
    simp only [yik, pB3, hst, Bool.and_true, Bool.and_eq_true, decide_eq_true_eq]
    omega
  rw [h2] at h1
  have h3 := zp2 (σ := σ) (x := agD i (1 - s) (stD n a b ts)) (by simp [pl, agD, stD, Ti.D])
  rw [show thD (.agree i (1 - s) n a b ts) = agD i (1 - s) (stD n a b ts) from rfl] at h1
  unfold f_is_agreed zgn
  unfold agD at *
  generalize stD n a b ts = S at *
  simp [h1, zqb, h3]
def Cl.ish : Cl -> Bool
  | .held => true
  | _ => false
theorem Cl.isH (c : Cl) (p : Pt) (σ : Sto) : yi0 (yij [(5, true), (6, false), (7, false), (8, false)]) (c.D p) σ = .ok (.bl c.ish) σ := by
  cases c with
  | held => exact zvr (zk8 rfl) rfl
  | laid => exact zvr (ya7 ..) rfl
  | taken => exact zvr (zk8 rfl) rfl
theorem zls (n : Nat) (P : Nat -> Pt) (B : Bs) {i : Nat} (h : i < n) (hi : i <= 2) (hP : (P i).Ok) (s m a b : Int) (hs : s = 0 \/ s = 1) (ts : List Ti) (hst : stB m a b ts = true) :
    f_Book_may_lie [.ref 0, .int i, .int s, stD m a b ts, agD i (1 - s) (stD m a b ts)] (bkS n P B) = .ok (.bl (B.C i).ish) (bkS n P B) := by
  have h3 := zkc n P B
  have h4 := zle n P B h
  have h5 := zsf n P B
  have h6 := zur n P h
  have hu := hP.u
  have hv := hP.v
  have f1 := fun σ => (zom (P := (P i).u) (Q := (P i).v) (by omega) (by omega) σ).1
  have g1 := fun σ => zj4 i hi s m a b hs ts hst σ
  obtain ⟨q, hq⟩ := zvp (yg9 m a b ts) (yg9 0 (P i).u (P i).v [])
  have i2 := fun σ => (P i).i2 σ
  have i3 := fun σ => (P i).i3 σ
  have o := fun σ => Cl.isH (B.C i) (P i) σ
  unfold f_Book_may_lie zcs
  generalize bkS n P B = σ at *
  generalize (B.C i).D (P i) = CD at *
  generalize stD m a b ts = S at *
  generalize stD 0 (P i).u (P i).v [] = S0 at *
  generalize (P i).D = PD at *
  generalize agD i (1 - s) S = AG at *
  generalize yja n P = PL at *
  generalize (B.C i).ish = e0 at *
  cases e0
  · simp [h3, h4, o]
  · cases q <;> simp [h3, h4, h5, h6, o, i2, i3, f1, hq, g1]
theorem zva (n : Nat) (P : Nat -> Pt) (B : Bs) (fs : M (List D)) : yir [(8, f_Book_may_lie)] 5 "may_lie" fs (.ref 0) (bkS n P B) = (fs (bkS n P B)).bind (yf3 5 f_Book_may_lie (.ref 0)) := zyo n P B _ _ rfl
theorem ya0 (n : Nat) (P : Nat -> Pt) (B : Bs) {i : Nat} (h : i < n) (hi : i <= 2) (hP : (P i).Ok) (s m a b : Int) (hs : s = 0 \/ s = 1) (ts : List Ti) (hst : stB m a b ts = true) (hl : ts.length <= 6) (hw : a + b + (ts.map (·.a)).sum = (P i).w) :
    f_Book_lay [.ref 0, .int i, .int s, stD m a b ts, agD i (1 - s) (stD m a b ts)] (bkS n P B) = if (B.C i).ish then .ok .non (bkS n P { B with C := upd B.C i (.laid s m a b ts B.y) }) else .ex ⟨2⟩ (bkS n P B) := by
  have h1 := znn n P B h
  have h2 := fun fs => ybe n P B fs
  have h3 := zkc n P B
  have h5 := zsf n P B
  have h6 := zur n P h
  have h7 := fun σ => zex s hs σ
  have h8 := fun σ => zrx (P i) σ
  have h9 := fun σ => zx5 m a b ts _ hst hl hw σ
  have h10 := zls n P B h hi hP s m a b hs ts hst
  have h11 := fun fs => zva n P B fs
  have h12 := zyl n P B
  have i4 := fun σ => (P i).i4 σ
  have mk := fun σ => zlq (P i).w s m a b ts B.y (P i).t σ
  have st := fun ρ => zq4 n P B h (.laid s m a b ts B.y) ρ
  rw [show Cl.D (P i) (.laid s m a b ts B.y) = LD (P i).w s m a b ts B.y (P i).t from rfl] at st
  unfold f_Book_lay zib
  generalize bkS n P { B with C := upd B.C i (.laid s m a b ts B.y) } = σ' at *
  generalize bkS n P B = σ at *
  generalize LD (P i).w s m a b ts B.y (P i).t = L at *
  generalize stD m a b ts = S at *
  generalize (P i).D = PD at *
  generalize agD i (1 - s) S = AG at *
  generalize yja n P = PL at *
  generalize (B.C i).ish = e0 at *
  cases e0
  · simp [h1, h2, h5, h6, h7, h8, h9, h10, h11]
  · simp [h1, h2, h3, h5, h6, h7, h8, h9, h10, h11, h12, i4, mk, st, -zu7]
def yjx (p s n : Int) : D := .tup [.str "strike", .int p, .int s, .int n]
theorem zgs (w s n a b : Int) (ts : List Ti) (d t y : Int) (hs : s = 0 \/ s = 1) (hn : 0 <= n /\ n <= 6) (i : Nat) (hi : i <= 2) (σ : Sto) :
    f_Laid_may_strike [LD w s n a b ts d t, .int i, .int (1 - s), .int y, yjx i s n] σ = .ok (.bl (decide (y < d + t))) σ := by
  have h1 := fun σ => zux w s n a b ts d t σ
  have h2 := fun σ => zpe w s n a b ts d t σ
  have h3 := fun fs σ => zlk w s n a b ts d t σ fs
  have h4 := fun σ => zpf w s n a b ts d t σ y
  have i0 : ∀ σ, oIx (stD n a b ts) (.int 0) σ = .ok (.int n) σ := fun σ => by simp [stD]
  have t1 := fun σ => yhd (.strike i s n) σ
  have t2 : yik (.strike i s n) = true := by
    simp only [yik, pB3, Bool.and_eq_true, decide_eq_true_eq]
    omega
  rw [t2, show thD (.strike i s n) = yjx i s n from rfl] at t1
  have t3 := fun σ => zp2 (σ := σ) (x := yjx i s n) (by simp [pl, yjx])
  unfold yjx at *
  unfold f_Laid_may_strike zav
  generalize LD w s n a b ts d t = L at *
  generalize stD n a b ts = S at *
  cases hb : decide (y < d + t)
  · rw [hb] at h4
    simp [h1, h2, h3, h4, zqb]
  · rw [hb] at h4
    simp [h1, h2, h3, h4, zqb, t1, t3, i0]
theorem zvb (w s n a b : Int) (ts : List Ti) (d t : Int) (fs : M (List D)) (σ : Sto) : yir [(5, f_Held_may_strike), (6, f_Laid_may_strike), (7, f_Taken_may_strike)] 5 "may_strike" fs (LD w s n a b ts d t) σ = (fs σ).bind (yf3 5 f_Laid_may_strike (LD w s n a b ts d t)) := zvg (ya7 ..) rfl rfl
theorem zm3 (n : Nat) (P : Nat -> Pt) (B : Bs) {i : Nat} (h : i < n) (hi : i <= 2) (s m a b : Int) (ts : List Ti) (d : Int) (hc : B.C i = .laid s m a b ts d) (hs : s = 0 \/ s = 1) (hm : 0 <= m /\ m <= 6) :
    f_Book_strike [.ref 0, .int i, .int (1 - s), yjx i s m] (bkS n P B) = if B.y < d + (P i).t then .ok .non (bkS n P { B with C := upd B.C i (.taken (1 - s)) }) else .ex ⟨2⟩ (bkS n P B) := by
  have h1 := znn n P B h
  have h2 := fun fs => ybe n P B fs
  have h3 := zkc n P B
  have h4 := zle n P B h
  rw [hc, show Cl.D (P i) (.laid s m a b ts d) = LD (P i).w s m a b ts d (P i).t from rfl] at h4
  have h5 := zsf n P B
  have h6 := zur n P h
  have h7 := fun σ => zex (1 - s) (by omega) σ
  have h8 := fun σ => zrx (P i) σ
  have h10 := fun σ => zgs (P i).w s m a b ts d (P i).t B.y hs hm i hi σ
  have h11 := fun fs σ => zvb (P i).w s m a b ts d (P i).t fs σ
  have h12 := zyl n P B
  have mk := fun σ => ziv (P i).w (1 - s) σ
  have st := fun ρ => zq4 n P B h (.taken (1 - s)) ρ
  rw [show Cl.D (P i) (.taken (1 - s)) = .obj 7 ["whole", "side"] [.int (P i).w, .int (1 - s)] from rfl] at st
  unfold f_Book_strike zdq
  generalize bkS n P { B with C := upd B.C i (.taken (1 - s)) } = σ' at *
  generalize bkS n P B = σ at *
  generalize LD (P i).w s m a b ts d (P i).t = L at *
  generalize D.obj 7 ["whole", "side"] [.int (P i).w, .int (1 - s)] = TK at *
  generalize (P i).D = PD at *
  generalize yjx i s m = SK at *
  generalize yja n P = PL at *
  by_cases hy : B.y < d + (P i).t
  · have hb : decide (B.y < d + (P i).t) = true := by simpa using hy
    rw [hb] at h10
    rw [if_pos hy]
    simp [h1, h2, h3, h4, h5, h6, h7, h8, h10, h11, h12, mk, st, -zu6]
  · have hb : decide (B.y < d + (P i).t) = false := by simpa using hy
    rw [hb] at h10
    rw [if_neg hy]
    simp [h1, h2, h3, h4, h7, h10, h11, h12]
inductive Stp (n : Nat) (P : Nat -> Pt) (c : Int) (B : Bs) : Bs -> Prop
  | day : Stp n P c B { B with y := B.y + 1 }
  | shw (i : Nat) (w : Int) (hi : i < n) (hc : c ≠ 0) : Stp n P c B { B with S := upd B.S i (shw (B.S i) w B.y) }
  | lay (i : Nat) (s m a b : Int) (ts : List Ti) (hi : i < n) (hh : B.C i = .held) (ok : LOk (P i) s m a b ts) (hc : c ≠ 0) : Stp n P c B { B with C := upd B.C i (.laid s m a b ts B.y) }
  | stk (i : Nat) (s m a b : Int) (ts : List Ti) (d : Int) (hi : i < n) (hh : B.C i = .laid s m a b ts d) (hy : B.y < d + (P i).t) (hs : s = 0 \/ s = 1) (hc : c ≠ 0) : Stp n P c B { B with C := upd B.C i (.taken (1 - s)) }
  | no (hc : c ≠ 0) : Stp n P c B B
theorem yba {p : Pt} (hp : p.Ok) {s m a b : Int} {ts : List Ti} (h : LOk p s m a b ts) (hl : ts.length <= 6) (hnd : (ts.map (·.w)).Nodup) (hw : ∀ t ∈ ts, 0 <= t.w /\ t.w <= 11) : stB m a b ts = true := by
  have hu := hp.u
  have hv := hp.v
  have e := h.hw
  unfold Pt.w at e
  have hle : ∀ (l : List Ti), (∀ t ∈ l, 1 <= t.a) -> 0 <= (l.map (·.a)).sum /\ ∀ t ∈ l, t.a <= (l.map (·.a)).sum := by
    intro l
    induction l with
    | nil => intro _; exact ⟨by simp, fun t ht => by cases ht⟩
    | cons x l ih =>
      intro hx
      obtain ⟨i1, i2⟩ := ih fun t ht => hx t (List.mem_cons_of_mem _ ht)
      have x1 := hx x List.mem_cons_self
      simp only [List.map_cons, List.sum_cons]
      refine ⟨by omega, fun t ht => ?_⟩
      rcases List.mem_cons.mp ht with rfl | ht
      · omega
      · have := i2 t ht; omega
  obtain ⟨s0, s1⟩ := hle ts fun t ht => (h.ok t ht).2.1
  have ha := h.ha
  have hb := h.hb
  have hn := h.hn
  unfold stB
  have : yhe ts = true := (zm4 ts).mpr ⟨fun t ht => by
    have o := h.ok t ht
    have w := hw t ht
    have := s1 t ht
    exact ⟨by omega, by omega, by omega, by omega, by omega, by omega, by omega, by omega⟩, hnd, hl⟩
  rw [this]
  simp only [Bool.and_true, Bool.and_eq_true, decide_eq_true_eq]
  omega
theorem yb3 {p : Pt} (hp : p.Ok) (c s : Int) (hs : s = 0 \/ s = 1) (σ : Sto) : ∃ (X : D) (m a b : Int) (ts : List Ti), f__law_small_stand [.int (c / 36), .int p.w] σ = .ok X σ /\ (∀ σ', oIx (.lst [X, .tup [.int 0, .tup [.int p.u, .int p.v], .tup []]]) (.int (c / 36 % 5 / 4)) σ' = .ok (stD m a b ts) σ') /\ LOk p s m a b ts /\ ts.length <= 6 /\ stB m a b ts = true := by
  have hu := hp.u
  have hv := hp.v
  obtain ⟨a, b, ts, ⟨ha, hb⟩, hsum, hl, ⟨lf, hSm⟩, es⟩ := zra (c / 36) p.w (by unfold Pt.w; omega) σ
  have h2 : c / 36 % 5 / 4 = 0 \/ c / 36 % 5 / 4 = 1 := by omega
  rcases h2 with h2 | h2
  · have ok : LOk p s (c / 36 / 7 % 7) a b ts := ⟨hs, by omega, ha, hb, hsum, fun t ht => by have := hSm.ok t ht; omega⟩
    refine ⟨_, c / 36 / 7 % 7, a, b, ts, es, fun σ' => ?_, ok, hl, yba hp ok hl hSm.nd fun t ht => (hSm.ok t ht).2.2.1⟩
    rw [h2]; exact zvt (show atI _ ((0 : Nat) : Int) = _ from zr9 rfl)
  · have ok : LOk p s 0 p.u p.v [] := ⟨hs, by omega, hu.1, hv.1, by simp [Pt.w], fun t ht => by cases ht⟩
    refine ⟨_, 0, p.u, p.v, [], es, fun σ' => ?_, ok, by simp, yba hp ok (by simp) (by simp) fun t ht => by cases ht⟩
    rw [h2]; exact zvt (show atI _ ((1 : Nat) : Int) = _ from zr9 rfl)
theorem hdl (ρ : Ev) (g : Ev -> M Fl) (σ : Sto) : yak ρ ⟨2⟩ (⟨(yij [(0, false), (1, false), (2, true)]), none, g⟩ :: []) σ = (g ρ σ).bind noF := by
  rw [zo3 rfl, yal]
theorem yd0 (n : Nat) (P : Nat -> Pt) (B : Bs) (c : Int) (h1 : 1 <= n) (h3 : n <= 3) (hP : ∀ i, i < n -> (P i).Ok) (hC : ∀ i, i < n -> (B.C i).Ok (P i)) (hl : ∀ i, i < n -> (B.S i).length < 1000) :
    ∃ d B', f__law_try [.ref 0, yja n P, .int c] (bkS n P B) = .ok d (bkS n P B') /\ Stp n P c B B' := by
  obtain ⟨i, hi, ei⟩ : ∃ i : Nat, i < n /\ c / 6 % (n : Int) = i := by
    have b1 := Int.emod_nonneg (c / 6) (show (n : Int) ≠ 0 by omega)
    have b2 := Int.emod_lt_of_pos (c / 6) (show (0 : Int) < n by omega)
    exact ⟨(c / 6 % (n : Int)).toNat, by omega, by omega⟩
  have hs : c / 18 % 2 = 0 \/ c / 18 % 2 = 1 := by omega
  obtain ⟨X, m, a, b, ts, e1, e2, ok, hl6, hst⟩ := yb3 (hP i hi) c (c / 18 % 2) hs (bkS n P B)
  have lp := zpi n P
  have xp := zur n P hi
  have om := fun σ => zvx (σ := σ) (c / 6) (n : Int) (by omega)
  rw [ei] at om
  have i2 := fun σ => (P i).i2 σ
  have i3 := fun σ => (P i).i3 σ
  have ew : (P i).u + (P i).v = (P i).w := rfl
  have m1 := fun fs => zyo n P B (k := 1) (m := "next_day") f_Book_next_day fs rfl
  have m2 := fun fs => zyo n P B (k := 3) (m := "show") f_Book_show fs rfl
  have m3 := fun fs => zyo n P B (k := 5) (m := "lay") f_Book_lay fs rfl
  have m4 := fun fs => zyo n P B (k := 2) (m := "told") f_Book_told fs rfl
  have m5 := fun fs => zyo n P B (k := 4) (m := "strike") f_Book_strike fs rfl
  have k4 : ∀ (fn : List D -> M D) (x a b c : D) (σ : Sto), yf3 4 fn x [a, b, c] σ = fn [x, a, b, c] σ := fun fn x a b c σ => zpu rfl
  unfold f__law_try zid
  by_cases c1 : c % 6 < 2
  · have b1 : decide (c % 6 < 2) = true := by simpa using c1
    have nd := zi0 n P B
    refine ⟨.int i, _, ?_, .day⟩
    generalize bkS n P { B with y := B.y + 1 } = σ' at *
    generalize bkS n P B = σ at *
    generalize stD m a b ts = S at *
    generalize yja n P = PL at *
    generalize (P i).D = PD at *
    simp [lp, xp, om, i2, i3, ew, e1, e2, b1, m1, nd]
  have hc0 : c ≠ 0 := fun z => c1 (by rw [z]; decide)
  have b1 : decide (c % 6 < 2) = false := by simpa using c1
  by_cases c2 : c % 6 < 4
  · have b2 : decide (c % 6 < 4) = true := by simpa using c2
    have sh := zxg n P B hi (c / 18 % 12) (by omega) (hl i hi)
    refine ⟨.int i, _, ?_, .shw i (c / 18 % 12) hi hc0⟩
    generalize bkS n P { B with S := upd B.S i (shw (B.S i) (c / 18 % 12) B.y) } = σ' at *
    generalize bkS n P B = σ at *
    generalize stD m a b ts = S at *
    generalize yja n P = PL at *
    generalize (P i).D = PD at *
    simp [lp, xp, om, i2, i3, ew, e1, e2, b1, b2, m2, sh]
  have b2 : decide (c % 6 < 4) = false := by simpa using c2
  by_cases c3 : c % 6 = 4
  · have b3 : (c % 6 == 4) = true := by simpa using c3
    have la := ya0 n P B hi (by omega) (hP i hi) (c / 18 % 2) m a b hs ts hst hl6 ok.hw
    cases hh : (B.C i).ish
    · rw [hh] at la
      refine ⟨.int (-1), B, ?_, .no hc0⟩
      unfold agD at la
      generalize bkS n P B = σ at *
      generalize stD m a b ts = S at *
      generalize yja n P = PL at *
      generalize (P i).D = PD at *
      simp at la
      simp [lp, xp, om, i2, i3, ew, e1, e2, b1, b2, b3, m3, la, hdl]
    · rw [hh] at la
      refine ⟨.int i, _, ?_, .lay i (c / 18 % 2) m a b ts hi (by cases hc : B.C i <;> rw [hc] at hh <;> first | rfl | cases hh) ok hc0⟩
      unfold agD at la
      generalize bkS n P { B with C := upd B.C i (.laid (c / 18 % 2) m a b ts B.y) } = σ' at *
      generalize bkS n P B = σ at *
      generalize stD m a b ts = S at *
      generalize yja n P = PL at *
      generalize (P i).D = PD at *
      simp at la
      simp [lp, xp, om, i2, i3, ew, e1, e2, b1, b2, b3, m3, la]
  have b3 : (c % 6 == 4) = false := by simpa using c3
  have td := zx8 n P B hi
  by_cases c4 : c / 36 % 3 = 0
  · have b4 : (c / 36 % 3 == 0) = true := by simpa using c4
    cases hc : B.C i with
    | held =>
      rw [hc, show Cl.tl .held = .tup [.str "held"] from rfl] at td
      refine ⟨.int i, B, ?_, .no hc0⟩
      have w1 : (("held" : Str) == "laid") = false := by decide
      generalize bkS n P B = σ at *
      generalize stD m a b ts = S at *
      generalize yja n P = PL at *
      generalize (P i).D = PD at *
      simp [lp, xp, om, i2, i3, ew, e1, e2, b1, b2, b3, b4, m4, td, w1]
    | taken s =>
      rw [hc, show Cl.tl (.taken s) = .tup [.str "taken", .int s] from rfl] at td
      refine ⟨.int i, B, ?_, .no hc0⟩
      have w1 : (("taken" : Str) == "laid") = false := by decide
      generalize bkS n P B = σ at *
      generalize stD m a b ts = S at *
      generalize yja n P = PL at *
      generalize (P i).D = PD at *
      simp [lp, xp, om, i2, i3, ew, e1, e2, b1, b2, b3, b4, m4, td, w1]
    | laid s n' a' b' ts' d =>
      have ok' := hC i hi
      rw [hc] at ok'
      have ok' : LOk (P i) s n' a' b' ts' := ok'
      have i0 : ∀ σ, oIx (stD n' a' b' ts') (.int 0) σ = .ok (.int n') σ := fun σ => by simp [stD]
      have sk := zm3 n P B hi (by omega) s n' a' b' ts' d hc ok'.hs ok'.hn
      rw [hc, show Cl.tl (.laid s n' a' b' ts' d) = .tup [.str "laid", .int s, stD n' a' b' ts', .int d] from rfl] at td
      unfold yjx at sk
      by_cases hy : B.y < d + (P i).t
      · rw [if_pos hy] at sk
        refine ⟨.int i, _, ?_, .stk i s n' a' b' ts' d hi hc hy ok'.hs hc0⟩
        generalize bkS n P { B with C := upd B.C i (.taken (1 - s)) } = σ' at *
        generalize bkS n P B = σ at *
        generalize stD m a b ts = S at *
        generalize stD n' a' b' ts' = S' at *
        generalize yja n P = PL at *
        generalize (P i).D = PD at *
        simp [lp, xp, om, i2, i3, ew, e1, e2, b1, b2, b3, b4, m4, m5, td, i0, sk, k4]
      · rw [if_neg hy] at sk
        refine ⟨.int (-1), B, ?_, .no hc0⟩
        generalize bkS n P B = σ at *
        generalize stD m a b ts = S at *
        generalize stD n' a' b' ts' = S' at *
        generalize yja n P = PL at *
        generalize (P i).D = PD at *
        simp [lp, xp, om, i2, i3, ew, e1, e2, b1, b2, b3, b4, m4, m5, td, i0, sk, k4, hdl]
  · have b4 : (c / 36 % 3 == 0) = false := by simpa using c4
    refine ⟨.int i, B, ?_, .no hc0⟩
    generalize bkS n P B = σ at *
    generalize stD m a b ts = S at *
    generalize yja n P = PL at *
    generalize (P i).D = PD at *
    simp [lp, xp, om, i2, i3, ew, e1, e2, b1, b2, b3, b4]
theorem zyb {l : List (Int × Int)} {w : Int} (h : val l w = none) (y w' : Int) : val (yje l w y) w' = if w' = w then some y else val l w' := by
  have ha : l.any (fun p => decide (p.1 = w)) = false := by
    rw [List.any_eq_false]
    intro p hp
    unfold val at h
    rw [Option.map_eq_none_iff, List.find?_eq_none] at h
    exact h p hp
  unfold yje
  rw [ha]
  simp only [Bool.false_eq_true, if_false]
  unfold val at h ⊢
  rw [List.find?_append]
  by_cases e : w' = w
  · subst e
    rw [Option.map_eq_none_iff] at h
    rw [h]
    simp
  · rw [if_neg e]
    have : List.find? (fun p : Int × Int => decide (p.1 = w')) [(w, y)] = none := by
      simp only [List.find?_cons, List.find?_nil]
      have : ¬ w = w' := fun z => e z.symm
      simp [this]
    rw [this]
    simp
theorem zo1 {l : List (Int × Int)} {y : Int} {t : Ti} {s : Int} (h : yih l y t = some s) : yih l (y + 1) t = some s := by
  unfold yih at *
  split at h
  · rename_i h1; rw [if_pos h1]; exact h
  · rename_i h1
    rw [if_neg h1]
    split at h
    · rw [if_pos (by omega)]; exact h
    · cases h
theorem zo2 {l : List (Int × Int)} {y : Int} {t : Ti} {s : Int} (w : Int) (h : yih l y t = some s) : yih (shw l w y) y t = some s := by
  unfold shw
  cases hv : val l w with
  | some v => exact h
  | none =>
    have vp := zyb hv y t.w
    dsimp only
    by_cases e : t.w = w
    · rw [if_pos e] at vp
      rw [<- e] at hv
      have h1 : inT l t = false := by unfold inT; rw [hv]
      unfold yih at *
      rw [h1] at h
      simp only [Bool.false_eq_true, if_false] at h
      split at h
      · rename_i h2
        have h3 : inT (yje l w y) t = false := by unfold inT; rw [vp]; simp; omega
        rw [h3]
        simp only [Bool.false_eq_true, if_false]
        rw [if_pos h2]; exact h
      · cases h
    · rw [if_neg e] at vp
      have h3 : inT (yje l w y) t = inT l t := by unfold inT; rw [vp]
      unfold yih at *
      rw [h3]; exact h
theorem s_nn (l : List (Int × Int)) (y : Int) : ∀ ts : List Ti, (∀ t ∈ ts, 1 <= t.a) -> 0 <= sA l y ts /\ 0 <= sB l y ts /\ 0 <= sH l y ts
  | [], _ => by simp [sA, sB, sH]
  | t :: ts, h => by
    obtain ⟨i1, i2, i3⟩ := s_nn l y ts fun t ht => h t (List.mem_cons_of_mem _ ht)
    have ha := h t List.mem_cons_self
    simp only [sA, sB, sH]
    cases g : yih l y t with
    | none => simp; omega
    | some s =>
      by_cases h0 : s = 0
      · subst h0; simp; omega
      · simp [h0]; omega
theorem yde {l l' : List (Int × Int)} {y y' : Int} : ∀ ts : List Ti, (∀ t ∈ ts, 1 <= t.a) -> (∀ t ∈ ts, ∀ s, yih l y t = some s -> yih l' y' t = some s) -> sA l y ts <= sA l' y' ts /\ sB l y ts <= sB l' y' ts
  | [], _, _ => by simp [sA, sB]
  | t :: ts, h, hg => by
    obtain ⟨i1, i2⟩ := yde ts (fun t ht => h t (List.mem_cons_of_mem _ ht)) fun t ht => hg t (List.mem_cons_of_mem _ ht)
    have ha := h t List.mem_cons_self
    have g1 := hg t List.mem_cons_self
    simp only [sA, sB]
    cases g : yih l y t with
    | none =>
      cases g' : yih l' y' t with
      | none => simp; omega
      | some s =>
        by_cases h0 : s = 0
        · subst h0; simp; omega
        · simp [h0]; omega
    | some s =>
      rw [g1 s g]
      omega
section
variable {p : Pt} (hp : p.Ok) {c : Cl} (hc : c.Ok p) (y : Int) (l : List (Int × Int))
include hp hc
theorem ye0 : 0 <= duA p y l c /\ 0 <= duB p y l c /\ 0 <= duH p y l c /\ duA p y l c + (duB p y l c + duH p y l c) = p.w := by
  have hu := hp.u
  have hv := hp.v
  have hw : 0 <= p.w := by unfold Pt.w; omega
  cases c with
  | held => simp [duA, duB, duH]; omega
  | laid s n a b ts d =>
    have hc : LOk p s n a b ts := hc
    obtain ⟨i1, i2, i3⟩ := s_nn l y ts fun t ht => (hc.ok t ht).2.1
    have e := sABH l y ts
    have := hc.hw
    have := hc.ha
    have := hc.hb
    simp only [duA, duB, duH]
    split <;> omega
  | taken s =>
    have hc : s = 0 \/ s = 1 := hc
    simp only [duA, duB, duH, upA, upB]
    rcases hc with rfl | rfl
    · rw [if_pos rfl, if_pos rfl]; omega
    · rw [if_neg (by decide), if_neg (by decide)]; omega
theorem zs5 {y' : Int} {l' : List (Int × Int)} (hy : y <= y') (hg : ∀ t s, yih l y t = some s -> yih l' y' t = some s) : duA p y l c <= duA p y' l' c /\ duB p y l c <= duB p y' l' c := by
  cases c with
  | held => simp [duA, duB]
  | laid s n a b ts d =>
    have hc : LOk p s n a b ts := hc
    obtain ⟨i1, i2⟩ := yde (l := l) (l' := l') (y := y) (y' := y') ts (fun t ht => (hc.ok t ht).2.1) fun t _ => hg t
    obtain ⟨j1, j2, j3⟩ := s_nn l' y' ts fun t ht => (hc.ok t ht).2.1
    have := hc.ha
    have := hc.hb
    simp only [duA, duB]
    split
    · split <;> omega
    · rw [if_neg (by omega), if_neg (by omega)]; omega
  | taken s => simp [duA, duB]
end
structure Iv (n : Nat) (P : Nat -> Pt) (q : Nat) (m : Int) (B : Bs) : Prop where
  ok : ∀ i, i < n -> (B.C i).Ok (P i)
  ld : ∀ i, i < n -> ∀ s k a b ts d, B.C i = .laid s k a b ts d -> d + m <= B.y
  m0 : 0 <= m
  m1 : m <= B.y
  sh : ∀ i, i < n -> (B.S i).length <= q
theorem zxh (l : List (Int × Int)) (w y : Int) : (shw l w y).length <= l.length + 1 := by
  unfold shw
  split
  · omega
  · exact zqn l w y
theorem ydu {n : Nat} {P : Nat -> Pt} (hP : ∀ i, i < n -> (P i).Ok) {q : Nat} {m c : Int} {B B' : Bs} (h : Iv n P q m B) (s : Stp n P c B B') :
    Iv n P (q + 1) (if c = 0 then m + 1 else 0) B' /\ ∀ i, i < n -> duA (P i) B.y (B.S i) (B.C i) <= duA (P i) B'.y (B'.S i) (B'.C i) /\ duB (P i) B.y (B.S i) (B.C i) <= duB (P i) B'.y (B'.S i) (B'.C i) := by
  have m0 := h.m0
  have m1 := h.m1
  cases s with
  | day =>
    refine ⟨⟨h.ok, fun i hi s k a b ts d e => ?_, by split <;> omega, by dsimp only; split <;> omega, fun i hi => by have := h.sh i hi; dsimp only; omega⟩, fun i hi => ?_⟩
    · have := h.ld i hi s k a b ts d e
      dsimp only
      split <;> omega
    · exact zs5 (hP i hi) (h.ok i hi) _ _ (by dsimp only; omega) fun t s g => zo1 g
  | shw i w hi hc =>
    rw [if_neg hc]
    refine ⟨⟨h.ok, fun i hi s k a b ts d e => ?_, by omega, by dsimp only; omega, fun j hj => ?_⟩, fun j hj => ?_⟩
    · have := h.ld i hi s k a b ts d e
      dsimp only
      omega
    · by_cases e : j = i
      · subst e
        dsimp only
        rw [upd_same]
        have := zxh (B.S j) w B.y
        have := h.sh j hj
        omega
      · dsimp only
        rw [upd_ne _ _ e]
        have := h.sh j hj
        omega
    · by_cases e : j = i
      · subst e
        dsimp only
        rw [upd_same]
        exact zs5 (hP j hj) (h.ok j hj) _ _ (Int.le_refl _) fun t s g => zo2 w g
      · dsimp only
        rw [upd_ne _ _ e]
        omega
  | lay i s k a b ts hi hh ok hc =>
    rw [if_neg hc]
    refine ⟨⟨fun j hj => ?_, fun j hj s k a b ts d e => ?_, by omega, by dsimp only; omega, fun j hj => by have := h.sh j hj; dsimp only; omega⟩, fun j hj => ?_⟩
    · by_cases e : j = i
      · subst e; dsimp only; rw [upd_same]; exact ok
      · dsimp only; rw [upd_ne _ _ e]; exact h.ok j hj
    · by_cases e' : j = i
      · subst e'
        dsimp only at e ⊢
        rw [upd_same] at e
        cases e
        omega
      · dsimp only at e ⊢
        rw [upd_ne _ _ e'] at e
        have := h.ld j hj _ _ _ _ _ _ e
        omega
    · by_cases e : j = i
      · subst e
        dsimp only
        rw [upd_same, hh]
        have := (hP j hj).t
        simp only [duA, duB]
        rw [if_pos (by omega), if_pos (by omega)]
        omega
      · dsimp only
        rw [upd_ne _ _ e]
        omega
  | stk i s k a b ts d hi hh hy hs hc =>
    rw [if_neg hc]
    refine ⟨⟨fun j hj => ?_, fun j hj s k a b ts d e => ?_, by omega, by dsimp only; omega, fun j hj => by have := h.sh j hj; dsimp only; omega⟩, fun j hj => ?_⟩
    · by_cases e : j = i
      · subst e; dsimp only; rw [upd_same]; show 1 - s = 0 \/ 1 - s = 1; omega
      · dsimp only; rw [upd_ne _ _ e]; exact h.ok j hj
    · by_cases e' : j = i
      · subst e'
        dsimp only at e ⊢
        rw [upd_same] at e
        cases e
      · dsimp only at e ⊢
        rw [upd_ne _ _ e'] at e
        have := h.ld j hj _ _ _ _ _ _ e
        omega
    · by_cases e : j = i
      · subst e
        dsimp only
        rw [upd_same, hh]
        obtain ⟨n1, n2, _⟩ := ye0 (hP j hj) (c := .taken (1 - s)) (show 1 - s = 0 \/ 1 - s = 1 by omega) B.y (B.S j)
        have z1 : duA (P j) B.y (B.S j) (.laid s k a b ts d) = 0 := by simp only [duA]; rw [if_pos hy]
        have z2 : duB (P j) B.y (B.S j) (.laid s k a b ts d) = 0 := by simp only [duB]; rw [if_pos hy]
        omega
      · dsimp only
        rw [upd_ne _ _ e]
        omega
  | no hc =>
    rw [if_neg hc]
    exact ⟨⟨h.ok, fun i hi s k a b ts d e => by have := h.ld i hi s k a b ts d e; omega, by omega, by omega, fun i hi => by have := h.sh i hi; omega⟩, fun i hi => ⟨Int.le_refl _, Int.le_refl _⟩⟩
theorem yda {l : List (Int × Int)} {y : Int} : ∀ ts : List Ti, (∀ t ∈ ts, t.d <= y) -> sH l y ts = 0
  | [], _ => rfl
  | t :: ts, h => by
    have i := yda (l := l) ts fun t ht => h t (List.mem_cons_of_mem _ ht)
    have ht := h t List.mem_cons_self
    simp only [sH, i]
    have : ∃ s, yih l y t = some s := by
      unfold yih
      by_cases h1 : inT l t = true
      · rw [if_pos h1]; exact ⟨_, rfl⟩
      · rw [if_neg h1, if_pos ht]; exact ⟨_, rfl⟩
    obtain ⟨s, e⟩ := this
    rw [e]; rfl
@[simp] theorem sForN_ap (src : Ev -> M NX) (tg : D -> Ev -> Option Ev) (body : Ev -> M Fl) (ρ : Ev) (σ : Sto) : ygv src tg body ρ σ = xsO ρ (yfh tg body ρ) (src ρ σ) := yhi ..
theorem zis {nx : NX} {tg : D -> Ev -> Option Ev} {body : Ev -> M Fl} {k i : Nat} {ρ ρ1 : Ev} {σ : Sto} {d : D} (h : nx i σ = some (some d)) (ht : tg d ρ = some ρ1) : yfx nx tg body (k + 1) i ρ σ = (body ρ1 σ).bind (yfv (yfx nx tg body k (i + 1))) := by
  rw [yfx]; simp only [h, ht]; rfl
theorem zlm {nx : NX} {tg : D -> Ev -> Option Ev} {body : Ev -> M Fl} {k i : Nat} {ρ : Ev} {σ : Sto} (h : nx i σ = some none) : yfx nx tg body (k + 1) i ρ σ = .ok (.nx ρ) σ := by
  rw [yfx]; simp only [h]
@[simp] theorem srcE_ap (f : Ev -> M D) (ρ : Ev) (σ : Sto) : srcE f ρ σ = (f ρ σ).bind ye7 := nr rfl
theorem zku (xs : List D) (σ : Sto) : ye7 (.lst xs) σ = .ok (nxE (.lst xs)) σ := nr rfl
theorem ybq {n i : Nat} (P : Nat -> Pt) (h : i < n) (σ : Sto) : nxE (yja n P) i σ = some (some (.tup [.int i, (P i).D])) := by
  have : ((List.range n).map fun i => (P i).D)[i]? = some (P i).D := by simp [h]
  unfold nxE yja yio
  simp only [this]
theorem zvm (n : Nat) (P : Nat -> Pt) (σ : Sto) : nxE (yja n P) n σ = some none := by
  have : ((List.range n).map fun i => (P i).D)[n]? = none := by simp
  unfold nxE yja yio
  simp only [this]
  simp
def ct (B : Bs) (P : Nat -> Pt) (h : Int) (i : Nat) : Int := (if (P i).l = h then duA (P i) B.y (B.S i) (B.C i) else 0) + (if (P i).r = h then duB (P i) B.y (B.S i) (B.C i) else 0)
def cs (f : Nat -> Int) : Nat -> Nat -> Int
  | _, 0 => 0
  | i, k + 1 => f i + cs f (i + 1) k
noncomputable abbrev coB : Ev -> M Fl := (yjl (yjw (yie (yej (eC (.int 0)) (yej (eC (.int 1)) yhx)))) (tgN 5) (sIf (eT (yh9 oEq (yh9 oIx (yif 4) (yif 5)) (yif 1))) (yjj (fun a b => a + b) 2 (yh9 oIx (yid [(8, f_Book_due_of)] 2 "due_of" (yif 0) (yej (yif 3) yhx)) (yif 5))) yjm))
theorem mdue (n : Nat) (P : Nat -> Pt) (B : Bs) (fs : M (List D)) : yir [(8, f_Book_due_of)] 2 "due_of" fs (.ref 0) (bkS n P B) = (fs (bkS n P B)).bind (yf3 2 f_Book_due_of (.ref 0)) := zyo n P B _ _ rfl
theorem mtold (n : Nat) (P : Nat -> Pt) (B : Bs) (fs : M (List D)) : yir [(8, f_Book_told)] 2 "told" fs (.ref 0) (bkS n P B) = (fs (bkS n P B)).bind (yf3 2 f_Book_told (.ref 0)) := zyo n P B _ _ rfl
theorem yf0 (n : Nat) (P : Nat -> Pt) (B : Bs) (fs : M (List D)) : yir [(8, f_Book_coin_of)] 2 "coin_of" fs (.ref 0) (bkS n P B) = (fs (bkS n P B)).bind (yf3 2 f_Book_coin_of (.ref 0)) := zyo n P B _ _ rfl
theorem zst (n : Nat) (P : Nat -> Pt) (B : Bs) {i : Nat} (hi : i < n) (hc : (B.C i).Ok (P i)) (h a : Int) (x5 : Option D) : ∃ y5, coB [some (.ref 0), some (.int h), some (.int a), some (.int i), some (P i).D, x5] (bkS n P B) = .ok (.nx [some (.ref 0), some (.int h), some (.int (a + ct B P h i)), some (.int i), some (P i).D, y5]) (bkS n P B) := by
  have du := zy7 n P B hi hc
  have md := fun fs => mdue n P B fs
  have i0 := fun σ => (P i).i0 σ
  have i1 := fun σ => (P i).i1 σ
  refine ⟨some (.int 1), ?_⟩
  unfold coB ct
  unfold Bs.du du3 at du
  generalize bkS n P B = σ at *
  generalize duA (P i) B.y (B.S i) (B.C i) = A at *
  generalize duB (P i) B.y (B.S i) (B.C i) = Bb at *
  generalize duH (P i) B.y (B.S i) (B.C i) = H at *
  have sg : ∀ (o : Int -> Int -> Int) (f : Ev -> M D) (x0 x1 x3 x4 x5 : Option D) (x : D), yjj o 2 f [x0, x1, some x, x3, x4, x5] σ = xsO [x0, x1, some x, x3, x4, x5] (augK o 2 [x0, x1, some x, x3, x4, x5] x) (f [x0, x1, some x, x3, x4, x5] σ) := fun o f x0 x1 x3 x4 x5 x => zwz rfl
  generalize (P i).D = PD at *
  by_cases h1 : (P i).l = h
  · have b1 : ((P i).l == h) = true := by simpa using h1
    rw [if_pos h1]
    by_cases h2 : (P i).r = h
    · have b2 : ((P i).r == h) = true := by simpa using h2
      rw [if_pos h2]
      simp [i0, i1, b1, b2, md, du, sg, Int.add_assoc]
    · have b2 : ((P i).r == h) = false := by simpa using h2
      rw [if_neg h2]
      simp [i0, i1, b1, b2, md, du, sg]
  · have b1 : ((P i).l == h) = false := by simpa using h1
    rw [if_neg h1]
    by_cases h2 : (P i).r = h
    · have b2 : ((P i).r == h) = true := by simpa using h2
      rw [if_pos h2]
      simp [i0, i1, b1, b2, md, du, sg]
    · have b2 : ((P i).r == h) = false := by simpa using h2
      rw [if_neg h2]
      simp [i0, i1, b1, b2]
theorem zss (n : Nat) (P : Nat -> Pt) (B : Bs) (hn : n <= 3) (hC : ∀ i, i < n -> (B.C i).Ok (P i)) (h : Int) : ∀ (k i : Nat) (f : Nat) (a : Int) (x3 x4 x5 : Option D), i + k = n -> f = 1001 - i -> ∃ y3 y4 y5,
    yfx (nxE (yja n P)) (tgT 2 (ydx (tgN 3) (ydx (tgN 4) yhc))) coB f i [some (.ref 0), some (.int h), some (.int a), x3, x4, x5] (bkS n P B) = .ok (.nx [some (.ref 0), some (.int h), some (.int (a + cs (ct B P h) i k)), y3, y4, y5]) (bkS n P B) := by
  intro k
  induction k with
  | zero =>
    intro i f a x3 x4 x5 hik hf
    obtain rfl : i = n := by omega
    refine ⟨x3, x4, x5, ?_⟩
    obtain ⟨f', rfl⟩ : ∃ f', f = f' + 1 := ⟨f - 1, by omega⟩
    rw [zlm (zvm i P _)]
    simp [cs]
  | succ k ih =>
    intro i f a x3 x4 x5 hik hf
    have hi : i < n := by omega
    obtain ⟨f', rfl⟩ : ∃ f', f = f' + 1 := ⟨f - 1, by omega⟩
    obtain ⟨y5, e⟩ := zst n P B hi (hC i hi) h a x5
    obtain ⟨z3, z4, z5, e2⟩ := ih (i + 1) f' (a + ct B P h i) (some (.int i)) (some (P i).D) y5 (by omega) (by omega)
    refine ⟨z3, z4, z5, ?_⟩
    rw [zis (ybq P hi _) (ρ1 := [some (.ref 0), some (.int h), some (.int a), some (.int i), some (P i).D, x5]) (nr rfl), e, zse, zpl, e2]
    simp only [cs, Int.add_assoc]
theorem zsu (n : Nat) (P : Nat -> Pt) (B : Bs) (hn : n <= 3) (hC : ∀ i, i < n -> (B.C i).Ok (P i)) (h : Int) (hh : 0 <= h /\ h <= 3) : f_Book_coin_of [.ref 0, .int h] (bkS n P B) = .ok (.int (cs (ct B P h) 0 n)) (bkS n P B) := by
  have bp := zsf n P B
  obtain ⟨y3, y4, y5, e⟩ := zss n P B hn hC h n 0 1001 0 none none none (by omega) (by omega)
  rw [Int.zero_add] at e
  have hd : f_is_hand [.int h] (bkS n P B) = .ok (.bl true) (bkS n P B) := by
    have b1 : decide (0 <= h) = true := by simpa using hh.1
    have b2 : decide (h <= 3) = true := by simpa using hh.2
    unfold f_is_hand zk2
    generalize bkS n P B = σ at *
    simp [zsi, b1, b2]
  have ek : ye7 (yja n P) (bkS n P B) = .ok (nxE (yja n P)) (bkS n P B) := zku ..
  have fk : ∀ (tg : D -> Ev -> Option Ev) (body : Ev -> M Fl) (ρ : Ev) (nx : NX), yfh tg body ρ nx = yfx nx tg body 1001 0 ρ := fun _ _ _ _ => rfl
  unfold coB at e
  unfold f_Book_coin_of zcq
  generalize bkS n P B = σ at *
  generalize yja n P = PL at *
  simp [hd, bp, ek, fk, e, -zw1]
def mkP (m : Int) : Pt := ⟨m % 2, 2 + m / 2 % 2, if m / 3 % 3 / 2 = 0 then m / 4 % 41 else m / 4 % 1000000, m / 164 % 21, 1 + m / 4000 % 6⟩
theorem ybi (m : Int) : (mkP m).Ok := by
  refine ⟨?_, ?_, ?_, ?_, ?_⟩ <;> simp only [mkP]
  · omega
  · omega
  · split <;> omega
  · omega
  · omega
noncomputable def yjb (ns : List Int) (i : Nat) : Pt := mkP (yiq (yeu ns (1 + i)) 30)
noncomputable abbrev ptB : Ev -> M Fl := (yjp (yjq 3 (eFn 2 f__law_mixed [] (yej (eFn 2 f__law_cell_at [] (yej (yif 0) (yej (yh9 yis (eC (.int 1)) (yif 2)) yhx))) (yej (eC (.int 30)) yhx))))
  (yjp (yjq 4 (yh9 oIx (eLv (yej (yh9 yi2 (yh9 yiw (yif 3) (eC (.int 4))) (eC (.int 41))) (yej (yh9 yi2 (yh9 yiw (yif 3) (eC (.int 4))) (yh9 yi5 (eC (.int 10)) (eC (.int 6)))) yhx))) (yh9 yiw (yh9 yi2 (yh9 yiw (yif 3) (eC (.int 3))) (eC (.int 3))) (eC (.int 2)))))
  (yjk (ye5 zvn (yif 1) (yej (yie (yej (yh9 yi2 (yif 3) (eC (.int 2))) (yej (yh9 yis (eC (.int 2)) (yh9 yi2 (yh9 yiw (yif 3) (eC (.int 2))) (eC (.int 2)))) (yej (yif 4) (yej (yh9 yi2 (yh9 yiw (yif 3) (eC (.int 164))) (eC (.int 21))) (yej (yh9 yis (eC (.int 1)) (yh9 yi2 (yh9 yiw (yif 3) (eC (.int 4000))) (eC (.int 6)))) yhx)))))) yhx)))))
theorem zwq (ns : List Int) (i : Nat) (ys : List D) (hy : ys.length < 1000) (x3 x4 : Option D) (σ : Sto) : ∃ y3 y4, ptB [some (.scr ns), some (.ref σ.length), some (.int i), x3, x4] (σ ++ [.lst ys]) = .ok (.nx [some (.scr ns), some (.ref σ.length), some (.int i), y3, y4]) (σ ++ [.lst (ys ++ [(yjb ns i).D])]) := by
  have c := fun σ => zsj ns (1 + (i : Int)) (by omega) σ
  rw [show (1 + (i : Int)).toNat = 1 + i by omega] at c
  have mx := fun σ => ybg (yeu ns (1 + i)) 30 (by decide) σ
  unfold yjb
  generalize yeu ns (1 + i) = z at *
  generalize yiq z 30 = m at *
  have hu : ∀ σ, oIx (.lst [.int (m / 4 % 41), .int (m / 4 % 1000000)]) (.int (m / 3 % 3 / 2)) σ = .ok (.int (mkP m).u) σ := fun σ => by
    have h2 : m / 3 % 3 / 2 = 0 \/ m / 3 % 3 / 2 = 1 := by omega
    simp only [mkP]
    rcases h2 with h2 | h2
    · rw [h2, if_pos rfl]; exact zvt (show atI _ ((0 : Nat) : Int) = _ from zr9 rfl)
    · rw [h2, if_neg (by decide)]; exact zvt (show atI _ ((1 : Nat) : Int) = _ from zr9 rfl)
  have ap := zhz (σ := σ) (xs := ys) (d := (mkP m).D) hy
  have eD : (mkP m).D = .tup [.int (m % 2), .int (2 + m / 2 % 2), .int (mkP m).u, .int (m / 164 % 21), .int (1 + m / 4000 % 6)] := rfl
  refine ⟨some (.int m), some (.int (mkP m).u), ?_⟩
  rw [eD] at ap ⊢
  generalize (mkP m).u = u at *
  unfold ptB
  simp [c, mx, hu, ap]
theorem zwp (ns : List Int) (σ : Sto) : ∀ (k i : Nat) (ys : List D) (x2 x3 x4 : Option D), ys.length + k <= 1000 -> ∃ y2 y3 y4, yin (tgN 2) ptB ((List.range' i k).map fun (k : Nat) => D.int k) [some (.scr ns), some (.ref σ.length), x2, x3, x4] (σ ++ [.lst ys]) = .ok (.nx [some (.scr ns), some (.ref σ.length), y2, y3, y4]) (σ ++ [.lst (ys ++ (List.range' i k).map fun i => (yjb ns i).D)]) := by
  intro k
  induction k with
  | zero => intro i ys x2 x3 x4 _; exact ⟨x2, x3, x4, by simp⟩
  | succ k ih =>
    intro i ys x2 x3 x4 h
    obtain ⟨y3, y4, e⟩ := zwq ns i ys (by omega) x3 x4 σ
    obtain ⟨z2, z3, z4, e2⟩ := ih (i + 1) (ys ++ [(yjb ns i).D]) (some (.int i)) y3 y4 (by simp; omega)
    refine ⟨z2, z3, z4, ?_⟩
    rw [List.range'_succ, List.map_cons, zpn]
    simp only [List.set_cons_succ, List.set_cons_zero]
    rw [e, zse, zpl, e2]
    simp
theorem zwi (n : Nat) (P : Nat -> Pt) : clL ((List.range n).map fun i => (P i).D) = true := zsm fun _ => by simp
theorem zwk (ns : List Int) (n : Nat) (hn : (n : Int) = 1 + yeu ns 0 % 3) (σ : Sto) : f__law_pots [.scr ns] σ = .ok (yja n (yjb ns)) σ := by
  have c := fun σ => zsj ns 0 (by decide) σ
  rw [Int.toNat_zero] at c
  obtain ⟨y2, y3, y4, e⟩ := zwp ns σ n 0 [] none none none (by simp; omega)
  rw [<- zmg] at e
  have rk : ∀ σ, yjh (.int (1 + yeu ns 0 % 3)) σ = .ok (.seq (yc7 n)) σ := fun σ => by rw [<- hn]; have := zwx (σ := σ) (j := (n : Int)) (by omega) (by omega); simpa using this
  have fz := zot (σ := σ) (j := []) (j' := []) (zwi n (yjb ns))
  rw [List.append_nil, List.range_eq_range'] at fz
  rw [List.nil_append] at e
  unfold ptB at e
  unfold f__law_pots zgm yja
  rw [List.range_eq_range']
  generalize ((List.range' 0 n).map fun i => (yjb ns i).D) = G at *
  generalize yc7 n = R at *
  generalize yeu ns 0 = z at *
  simp [c, rk, e, fz, -p6]
theorem zpq (p : Pt) (hp : p.Ok) (σ : Sto) : f_makes_a_pot [p.D] σ = .ok (.bl true) σ := by
  have hd : ∀ (z : Int), 0 <= z /\ z <= 3 -> ∀ σ, f_is_hand [.int z] σ = .ok (.bl true) σ := fun z hz σ => by
    have b1 : decide (0 <= z) = true := by simpa using hz.1
    have b2 : decide (z <= 3) = true := by simpa using hz.2
    unfold f_is_hand zk2
    simp [zsi, b1, b2]
  have hl := hp.l
  have hr := hp.r
  have hu := hp.u
  have hv := hp.v
  have ht := hp.t
  have h1 := fun σ => hd p.l (by omega) σ
  have h2 := fun σ => hd p.r (by omega) σ
  have i4 := fun σ => p.i4 σ
  have ne : (p.l == p.r) = false := by simp; omega
  have bt : ∀ (z a b : Int), a <= z /\ z <= b -> ∀ σ, f_is_between [.int z, .int a, .int b] σ = .ok (.bl true) σ := fun z a b h σ => by
    have b1 : decide (a <= z) = true := by simpa using h.1
    have b2 : decide (z <= b) = true := by simpa using h.2
    rw [zsi, b1, b2]; rfl
  have b3 := fun σ => bt p.u 0 1000000000000 (by omega) σ
  have b4 := fun σ => bt p.v 0 1000000000000 (by omega) σ
  have b5 := fun σ => bt p.t 1 100 (by omega) σ
  unfold Pt.D at i4
  unfold f_makes_a_pot zdt Pt.D
  generalize p.l = l at *
  generalize p.r = r at *
  generalize p.u = u at *
  generalize p.v = v at *
  generalize p.t = t at *
  simp [h1, h2, i4, ne, b3, b4, b5]
noncomputable abbrev ckB : Ev -> M Fl := (sIf (bOr (eT (yh9 oGt (yif 1) (eC (.int 2)))) (yh0 (eT (eFn 1 f_makes_a_pot [] (yej (yif 2) yhx))))) sBad yjm)
theorem zsk (n : Nat) (P : Nat -> Pt) (hn : n <= 3) (hP : ∀ i, i < n -> (P i).Ok) (σ : Sto) : ∀ (k i : Nat) (f : Nat) (x1 x2 : Option D), i + k = n -> f = 1001 - i -> ∃ y1 y2,
    yfx (nxE (yja n P)) (tgT 2 (ydx (tgN 1) (ydx (tgN 2) yhc))) ckB f i [some (yja n P), x1, x2] σ = .ok (.nx [some (yja n P), y1, y2]) σ := by
  intro k
  induction k with
  | zero =>
    intro i f x1 x2 hik hf
    obtain rfl : i = n := by omega
    obtain ⟨f', rfl⟩ : ∃ f', f = f' + 1 := ⟨f - 1, by omega⟩
    exact ⟨x1, x2, zlm (zvm i P _)⟩
  | succ k ih =>
    intro i f x1 x2 hik hf
    have hi : i < n := by omega
    obtain ⟨f', rfl⟩ : ∃ f', f = f' + 1 := ⟨f - 1, by omega⟩
    obtain ⟨z1, z2, e2⟩ := ih (i + 1) f' (some (.int i)) (some (P i).D) (by omega) (by omega)
    refine ⟨z1, z2, ?_⟩
    have mk := zpq (P i) (hP i hi) σ
    have b : decide ((2 : Int) < (i : Int)) = false := by simp; omega
    have e : ckB [some (yja n P), some (.int i), some (P i).D] σ = .ok (.nx [some (yja n P), some (.int i), some (P i).D]) σ := by
      unfold ckB
      generalize (P i).D = PD at *
      generalize yja n P = PL at *
      simp [mk, b]
    rw [zis (ybq P hi _) (ρ1 := [some (yja n P), some (.int i), some (P i).D]) (nr rfl), e, zse, zpl, e2]
theorem zoq {xs : List D} (h : clL xs = true) (σ : Sto) : yig σ (ygc [.lst xs] σ) = .ok (.lst xs) σ := by
  have e : ygc [.lst xs] σ = .ok (.ref σ.length) (σ ++ [.lst xs]) := nr rfl
  rw [e]
  have := zot (σ := σ) (j := []) (j' := []) h
  simpa using this
theorem zh4 (n : Nat) (P : Nat -> Pt) (hn : n <= 3) (hP : ∀ i, i < n -> (P i).Ok) (σ : Sto) : f_checked_pots [yja n P] σ = .ok (yja n P) σ := by
  obtain ⟨y1, y2, e⟩ := zsk n P hn hP σ n 0 1001 none none (by omega) (by omega)
  have ek : ye7 (yja n P) σ = .ok (nxE (yja n P)) σ := zku ..
  have fk : ∀ (tg : D -> Ev -> Option Ev) (body : Ev -> M Fl) (ρ : Ev) (nx : NX), yfh tg body ρ nx = yfx nx tg body 1001 0 ρ := fun _ _ _ _ => rfl
  have fl : yig σ (ygc [yja n P] σ) = .ok (yja n P) σ := zoq (zwi n P) σ
  have hc : cl (yja n P) = true := by unfold yja; rw [zy1]; exact zwi n P
  unfold ckB at e
  unfold f_checked_pots zcv
  generalize yja n P = PL at *
  simp [ek, fk, e, fl, hc, -ydb]
def B0 : Bs := ⟨0, fun _ => .held, fun _ => [], []⟩
theorem ya4 {src : Ev -> M Src} {ix : List Nat} {fe : Ev -> M D} {ds : List D} {ρ : Ev} {σ : Sto} (y : D -> D) (hs : src ρ σ = .ok (.seq ds) σ) (hl : ds.length <= 1000)
    (step : ∀ d ∈ ds, ∀ j, fe (some d :: (ix.map fun i => (ρ[i]?).getD none)) (σ ++ j) = .ok (y d) (σ ++ j)) :
    eLC src ix (tgN 0) yeo fe ρ σ = .ok (.ref σ.length) (σ ++ [.lst (ds.map y)]) := by
  show bnd (src ρ) (lcK (tgN 0) yeo fe (yeq ix ρ)) σ = _
  rw [zyr, hs, zse]
  show bnd (ya1 (.seq ds) σ.length (tgN 0) yeo fe 1001 0 (none :: (ix.map fun i => (ρ[i]?).getD none))) _ (σ ++ [.lst []]) = _
  rw [zyr, yfs y (fun _ => true) (fun d hd j => ⟨rfl, fun _ => step d hd j⟩) hl 1001 0 none [] (by omega) (by omega) (by simp), zse]
  rw [List.drop_zero, show List.filter (fun _ => true) ds = ds from List.filter_eq_self.mpr fun _ _ => rfl]
  rfl
theorem put0 (ρ : Ev) (cs : List Nat) (f : Str) (d : D) (c : Nat) (fs : List (Str × D)) (r : Sto) (hc : cs.contains c = true) (hl : fs.length < 1000) : ygp ρ cs f d (.ref 0) (.ins c fs :: r) = .ok (.nx ρ) (.ins c (yjc f d fs) :: r) := by
  unfold ygp yi6
  simp [hc, hl, List.contains_eq_mem] at *
  simp [hc, hl]
theorem zuc (n : Nat) (P : Nat -> Pt) (hn : n <= 3) (y : D) : eLC (yjw (eUn (yix [8] "pots") (yif 0))) [] (tgN 0) yeo (yia (ye4 5 2 f_Claim___init__ (yej (eFn 1 f_whole_of [] (yej (yif 0) yhx)) yhx))) [some (.ref 0), some y] [.ins 8 [("pots", yja n P), ("day", .int 0)]]
    = .ok (.ref 1) [.ins 8 [("pots", yja n P), ("day", .int 0)], .lst ((List.range n).map fun i => Cl.D (P i) .held)] := by
  have fl : yix [8] "pots" (.ref 0) [.ins 8 [("pots", yja n P), ("day", .int 0)]] = .ok (yja n P) [.ins 8 [("pots", yja n P), ("day", .int 0)]] := zvq (c := 8) rfl rfl rfl
  have := ya4 (ix := []) (ρ := [some (.ref 0), some y]) (σ := [.ins 8 [("pots", yja n P), ("day", .int 0)]]) (src := yjw (eUn (yix [8] "pots") (yif 0))) (fe := yia (ye4 5 2 f_Claim___init__ (yej (eFn 1 f_whole_of [] (yej (yif 0) yhx)) yhx))) (ds := (List.range n).map fun i => (P i).D)
    (fun d => match d with | .tup [_, _, .int u, .int v, _] => .obj 5 ["whole"] [.int (u + v)] | _ => .non) (by rw [zx3, zzb, zzc, zse, fl, zse]; rfl) (by simp; omega) (fun d hd j => by
      obtain ⟨i, _, rfl⟩ := List.mem_map.mp hd
      have w := fun σ => zrx (P i) σ
      have mk := fun σ => zlp (P i).w σ
      show _ = Out.ok (D.obj 5 ["whole"] [.int (P i).w]) _
      generalize ([Ob.ins 8 [("pots", yja n P), ("day", D.int 0)]] ++ j : Sto) = σ
      generalize (P i).D = PD at *
      generalize (P i).w = W at *
      generalize D.obj 5 ["whole"] [.int W] = O at *
      simp [w, mk, -zu5])
  rw [this, List.map_map]
  rfl
theorem zuj (n : Nat) (P : Nat -> Pt) (h1 : 1 <= n) (h3 : n <= 3) (hP : ∀ i, i < n -> (P i).Ok) : f_Book___init__ [.ref 0, yja n P] [.ins 8 []] = .ok .non (bkS n P B0) := by
  have ck := fun σ => zh4 n P h3 hP σ
  have hl := zuc n P h3 (yja n P)
  have p1 : ∀ ρ r, ygp ρ [8] "pots" (yja n P) (.ref 0) (.ins 8 [] :: r) = .ok (.nx ρ) (.ins 8 [("pots", yja n P)] :: r) := fun ρ r => put0 ρ _ _ _ 8 [] r rfl (by decide)
  have p2 : ∀ ρ r, ygp ρ [6, 8] "day" (.int 0) (.ref 0) (.ins 8 [("pots", yja n P)] :: r) = .ok (.nx ρ) (.ins 8 [("pots", yja n P), ("day", .int 0)] :: r) := fun ρ r => put0 ρ _ _ _ 8 _ r rfl (by simp)
  have p3 : ∀ ρ r, ygp ρ [8] "claims" (.ref 1) (.ref 0) (.ins 8 [("pots", yja n P), ("day", .int 0)] :: r) = .ok (.nx ρ) (.ins 8 [("pots", yja n P), ("day", .int 0), ("claims", .ref 1)] :: r) := fun ρ r => put0 ρ _ _ _ 8 _ r rfl (by simp)
  have p4 : ∀ ρ r, ygp ρ [8] "shown" (.ref 2) (.ref 0) (.ins 8 [("pots", yja n P), ("day", .int 0), ("claims", .ref 1)] :: r) = .ok (.nx ρ) (.ins 8 [("pots", yja n P), ("day", .int 0), ("claims", .ref 1), ("shown", .ref 2)] :: r) := fun ρ r => put0 ρ _ _ _ 8 _ r rfl (by simp)
  have sh : ∀ y c, eLC (yjw (eUn (yix [8] "pots") (yif 0))) [] (tgN 0) yeo ye3 [some (.ref 0), some y] [.ins 8 [("pots", yja n P), ("day", .int 0), ("claims", .ref 1)], c]
      = .ok (.ref 2) (.ins 8 [("pots", yja n P), ("day", .int 0), ("claims", .ref 1)] :: c :: .lst ((List.range n).map fun i => .ref (3 + i)) :: (((List.range n).map fun i => .dic []) ++ [])) := by
    intro y c
    have hc : n = 1 \/ n = 2 \/ n = 3 := by omega
    rcases hc with rfl | rfl | rfl <;> rfl
  unfold f_Book___init__ zby
  have eB : bkS n P B0 = .ins 8 [("pots", yja n P), ("day", .int 0), ("claims", .ref 1), ("shown", .ref 2)] :: .lst ((List.range n).map fun i => Cl.D (P i) .held) :: .lst ((List.range n).map fun i => .ref (3 + i)) :: (((List.range n).map fun i => .dic []) ++ []) := rfl
  rw [eB]
  generalize Ob.lst ((List.range n).map fun i => Cl.D (P i) .held) = c at *
  generalize ((List.range n).map fun i => D.ref (3 + i)) = rs at *
  generalize (((List.range n).map fun i => Ob.dic []) ++ []) = ds at *
  generalize yja n P = PL at *
  simp [ck, p1, p2, p3, p4, hl, sh]
@[simp] theorem setL3_2 (d a b c : D) (r : List D) (ρ : Ev) (σ : Sto) : yg6 ρ d (.ref σ.length) (.int 2) (σ ++ [.lst (a :: b :: c :: r)]) = .ok (.nx ρ) (σ ++ [.lst (a :: b :: d :: r)]) := by
  have : ygg (.ref σ.length) (.int 2) d (σ ++ [.lst (a :: b :: c :: r)]) = .ok () (σ ++ [.lst (a :: b :: d :: r)]) := by
    simp only [ygg, zlo]
    rw [show ixN (a :: b :: c :: r).length 2 = some 2 by simp [ixN]; omega]
    simp
  unfold yg6; rw [this]
@[simp] theorem setL3_3 (d a b c e : D) (r : List D) (ρ : Ev) (σ : Sto) : yg6 ρ d (.ref σ.length) (.int 3) (σ ++ [.lst (a :: b :: c :: e :: r)]) = .ok (.nx ρ) (σ ++ [.lst (a :: b :: c :: d :: r)]) := by
  have : ygg (.ref σ.length) (.int 3) d (σ ++ [.lst (a :: b :: c :: e :: r)]) = .ok () (σ ++ [.lst (a :: b :: c :: d :: r)]) := by
    simp only [ygg, zlo]
    rw [show ixN (a :: b :: c :: e :: r).length 3 = some 3 by simp [ixN]; omega]
    simp
  unfold yg6; rw [this]
@[simp] theorem ix_e2 (a b c : D) (r : List D) (σ : Sto) : oIx (.ref σ.length) (.int 2) (σ ++ [.lst (a :: b :: c :: r)]) = .ok c (σ ++ [.lst (a :: b :: c :: r)]) := zvs (show atI _ ((2 : Nat) : Int) = _ from zr9 rfl)
@[simp] theorem ix_e3 (a b c d : D) (r : List D) (σ : Sto) : oIx (.ref σ.length) (.int 3) (σ ++ [.lst (a :: b :: c :: d :: r)]) = .ok d (σ ++ [.lst (a :: b :: c :: d :: r)]) := zvs (show atI _ ((3 : Nat) : Int) = _ from zr9 rfl)
@[simp] theorem zkt (o : D -> List D -> M D) (f : Ev -> M D) (fs : Ev -> M (List D)) (ρ : Ev) (σ : Sto) : zy9 o f fs ρ σ = (f ρ σ).bind (ybf o (fs ρ)) := nr rfl
theorem zlu (o : D -> List D -> M D) (m : M (List D)) (l : List (Int × Int)) (σ : Sto) : ybf o m (shD l) σ = (m σ).bind (o (shD l)) := by unfold ybf; rw [zsz]; rfl
theorem zua (l : List (Int × Int)) (w d : Int) (σ : Sto) : ygb (shD l) [.int w, .int d] σ = .ok (.int ((val l w).getD d)) σ := by
  unfold ygb
  simp only [yim, zsz, zok]
  cases val l w <;> rfl
theorem zrl (n : Nat) (P : Nat -> Pt) (B : Bs) : f_Book_today [.ref 0] (bkS n P B) = .ok (.int B.y) (bkS n P B) := by
  have h := zyl n P B
  unfold f_Book_today zey
  generalize bkS n P B = σ at *
  simp [h]
theorem dcpS {SD : D} {l : List (Int × Int)} {σ : Sto} (hS : yh7 σ SD = some (kvI l)) : yiv [SD] σ = .ok (shD l) σ := by
  unfold yiv
  simp only [hS]
  unfold shD kvI
  simp [List.map_map, Function.comp_def]
theorem zhv (n : Nat) (P : Nat -> Pt) (B : Bs) {i : Nat} (h : i < n) : f_Book_shown_for [.ref 0, .int i] (bkS n P B) = .ok (shD (B.S i)) (bkS n P B) := by
  have h1 := znn n P B h
  have h2 := fun fs => ybe n P B fs
  have h7 := zne n P B
  have h8 := zpa n P B h
  have h9 := dcpS (yep n P B h)
  have hc := ydi (B.S i)
  unfold f_Book_shown_for zbb
  generalize bkS n P B = σ at *
  generalize shD (B.S i) = SD at *
  simp [h1, h2, h7, h8, h9, hc]
noncomputable abbrev dlB : Ev -> M Fl := (sIf (eT (yh9 oLt (zy9 ygb (yif 5) (yej (yif 9) (yej (yif 10) yhx))) (yif 10))) (ygx (yh9 yis (yh9 oIx (yif 6) (yh9 yi8 (eC (.int 1)) (yif 7))) (yif 8)) (yif 6) (yh9 yi8 (eC (.int 1)) (yif 7))) (sIf (eT (yh9 oLt (yid [(8, f_Book_today)] 1 "today" (yif 0) yhx) (yif 10))) (ygx (yh9 yis (yh9 oIx (yif 6) (eC (.int 2))) (yif 8)) (yif 6) (eC (.int 2))) (ygx (yh9 yis (yh9 oIx (yif 6) (yif 7)) (yif 8)) (yif 6) (yif 7))))
theorem zui (l : List (Int × Int)) (t : Ti) : decide ((val l t.w).getD t.d < t.d) = inT l t := by
  unfold inT
  cases val l t.w <;> simp
theorem tg4' (t : Ti) (ρ : Ev) : tgT 4 (ydx (tgN 7) (ydx (tgN 8) (ydx (tgN 9) (ydx (tgN 10) yhc)))) t.D ρ = some ((((ρ.set 7 (some (.int t.p))).set 8 (some (.int t.a))).set 9 (some (.int t.w))).set 10 (some (.int t.d))) := rfl
theorem zs4 (n : Nat) (P : Nat -> Pt) (B : Bs) (x1 x2 x3 x4 : Option D) (l : List (Int × Int)) (t : Ti) (hp : t.p = 0 \/ t.p = 1) (A Bb H : Int) :
    dlB [some (.ref 0), x1, x2, x3, x4, some (shD l), some (.ref (bkS n P B).length), some (.int t.p), some (.int t.a), some (.int t.w), some (.int t.d)] (bkS n P B ++ [.lst [.int A, .int Bb, .int H]])
      = .ok (.nx [some (.ref 0), x1, x2, x3, x4, some (shD l), some (.ref (bkS n P B).length), some (.int t.p), some (.int t.a), some (.int t.w), some (.int t.d)]) (bkS n P B ++ [.lst [.int (A + (if yih l B.y t = some 0 then t.a else 0)), .int (Bb + (match yih l B.y t with | some s => if s = 0 then 0 else t.a | none => 0)), .int (H + (match yih l B.y t with | some _ => 0 | none => t.a))]]) := by
  have m := fun o m σ => zlu o m l σ
  have g := fun σ => zua l t.w t.d σ
  have i := zui l t
  have mt : ∀ j fs, yir [(8, f_Book_today)] 1 "today" fs (.ref 0) (bkS n P B ++ j) = (fs (bkS n P B ++ j)).bind (yf3 1 f_Book_today (.ref 0)) := fun j fs => by rw [zyk]; exact zyo n P _ _ _ rfl
  have ty : ∀ j, f_Book_today [.ref 0] (bkS n P B ++ j) = .ok (.int B.y) (bkS n P B ++ j) := fun j => by rw [zyk]; exact zrl n P { B with J := B.J ++ j }
  unfold dlB
  generalize bkS n P B = σ at *
  generalize (val l t.w).getD t.d = V at *
  cases h : inT l t
  · rw [h] at i
    by_cases h2 : B.y ≥ t.d
    · have e : yih l B.y t = some t.p := by unfold yih; rw [h]; simp; omega
      have hb : decide (B.y < t.d) = false := by simp; omega
      rw [e]
      generalize shD l = SD at *
      rcases hp with hp | hp <;> simp [m, g, i, mt, ty, hb, hp]
    · have e : yih l B.y t = none := by unfold yih; rw [h]; simp; omega
      have hb : decide (B.y < t.d) = true := by simp; omega
      rw [e]
      generalize shD l = SD at *
      simp [m, g, i, mt, ty, hb]
  · rw [h] at i
    have e : yih l B.y t = some (1 - t.p) := by unfold yih; rw [h]; rfl
    rw [e]
    generalize shD l = SD at *
    rcases hp with hp | hp <;> simp [m, g, i, hp]
theorem zs3 (n : Nat) (P : Nat -> Pt) (B : Bs) (x1 x2 x3 x4 : Option D) (l : List (Int × Int)) : ∀ (ts : List Ti) (A Bb H : Int) (x7 x8 x9 x10 : Option D), (∀ t ∈ ts, t.p = 0 \/ t.p = 1) -> ∃ y7 y8 y9 y10,
    yin (tgT 4 (ydx (tgN 7) (ydx (tgN 8) (ydx (tgN 9) (ydx (tgN 10) yhc))))) dlB (ts.map Ti.D) [some (.ref 0), x1, x2, x3, x4, some (shD l), some (.ref (bkS n P B).length), x7, x8, x9, x10] (bkS n P B ++ [.lst [.int A, .int Bb, .int H]])
      = .ok (.nx [some (.ref 0), x1, x2, x3, x4, some (shD l), some (.ref (bkS n P B).length), y7, y8, y9, y10]) (bkS n P B ++ [.lst [.int (A + sA l B.y ts), .int (Bb + sB l B.y ts), .int (H + sH l B.y ts)]])
  | [], A, Bb, H, x7, x8, x9, x10, _ => ⟨x7, x8, x9, x10, by simp [sA, sB, sH]⟩
  | t :: ts, A, Bb, H, x7, x8, x9, x10, hp => by
    have st := zs4 n P B x1 x2 x3 x4 l t (hp t List.mem_cons_self) A Bb H
    obtain ⟨y7, y8, y9, y10, e⟩ := zs3 n P B x1 x2 x3 x4 l ts (A + (if yih l B.y t = some 0 then t.a else 0)) (Bb + (match yih l B.y t with | some s => if s = 0 then 0 else t.a | none => 0)) (H + (match yih l B.y t with | some _ => 0 | none => t.a)) (some (.int t.p)) (some (.int t.a)) (some (.int t.w)) (some (.int t.d)) (fun t ht => hp t (List.mem_cons_of_mem _ ht))
    refine ⟨y7, y8, y9, y10, ?_⟩
    rw [List.map_cons, zln (tg4' t _)]
    simp only [List.set_cons_succ, List.set_cons_zero]
    rw [st, zse, zpl, e]
    simp only [sA, sB, sH, Int.add_assoc] <;> rfl
theorem ybc (a b c : D) (σ : Sto) : yip [a, b, c] σ = .ok (.ref σ.length) (σ ++ [.lst [a, b, c]]) := nr rfl
theorem ybk (n : Nat) (P : Nat -> Pt) (B : Bs) (fs : M (List D)) : yir [(8, f_Book_told)] 2 "told" fs (.ref 0) (bkS n P B) = (fs (bkS n P B)).bind (yf3 2 f_Book_told (.ref 0)) := zyo n P B _ _ rfl
theorem zuz (n : Nat) (P : Nat -> Pt) (B : Bs) {i : Nat} (hi : i < n) (hP : (P i).Ok) (hc : (B.C i).Ok (P i)) : f__law_due [.ref 0, .int i, .int (P i).w, .int (P i).t] (bkS n P B) = .ok (B.du P i) (bkS n P B) := by
  have td := zx8 n P B hi
  have mt := fun fs => ybk n P B fs
  have ty := zrl n P B
  have my : ∀ fs, yir [(8, f_Book_today)] 1 "today" fs (.ref 0) (bkS n P B) = (fs (bkS n P B)).bind (yf3 1 f_Book_today (.ref 0)) := fun fs => zyo n P B _ _ rfl
  have sf := zhv n P B hi
  have ms : ∀ fs, yir [(8, f_Book_shown_for)] 2 "shown_for" fs (.ref 0) (bkS n P B) = (fs (bkS n P B)).bind (yf3 2 f_Book_shown_for (.ref 0)) := fun fs => zyo n P B _ _ rfl
  have hu := hP.u
  have hv := hP.v
  have mu : ∀ z σ, yi3 (.int (P i).w) (.int z) σ = .ok (.int ((P i).w * z)) σ := fun z σ => zvy (zys (by unfold Pt.w; omega) (by unfold Pt.w; omega))
  unfold f__law_due zic Bs.du du3
  cases hcc : B.C i with
  | held =>
    rw [hcc, show Cl.tl .held = .tup [.str "held"] from rfl] at td
    have w1 : (("held" : Str) == "taken") = false := by decide
    simp only [duA, duB, duH]
    generalize bkS n P B = σ at *
    simp [mt, td, w1]
  | taken s =>
    rw [hcc] at hc
    have hc : s = 0 \/ s = 1 := hc
    rw [hcc, show Cl.tl (.taken s) = .tup [.str "taken", .int s] from rfl] at td
    simp only [duA, duB, duH, upA, upB]
    generalize bkS n P B = σ at *
    generalize (P i).w = W at *
    rcases hc with rfl | rfl <;> simp [mt, td, mu]
  | laid s k a b ts d =>
    rw [hcc] at hc
    have hc : LOk (P i) s k a b ts := hc
    have w1 : (("laid" : Str) == "taken") = false := by decide
    have w2 : (("laid" : Str) == "held") = false := by decide
    have i3 : ∀ (a b c d : D) (σ : Sto), oIx (.tup [a, b, c, d]) (.int 3) σ = .ok d σ := fun a b c d σ => zvv (show atI _ ((3 : Nat) : Int) = _ from zr9 rfl)
    have j1 : ∀ σ, oIx (stD k a b ts) (.int 1) σ = .ok (.tup [.int a, .int b]) σ := fun σ => by simp [stD]
    have j2 : ∀ σ, oIx (stD k a b ts) (.int 2) σ = .ok (.tup (ts.map Ti.D)) σ := fun σ => by simp [stD]
    rw [hcc, show Cl.tl (.laid s k a b ts d) = .tup [.str "laid", .int s, stD k a b ts, .int d] from rfl] at td
    by_cases hy : B.y < d + (P i).t
    · have hb : decide (B.y - d < (P i).t) = true := by simp; omega
      simp only [duA, duB, duH]
      rw [if_pos hy, if_pos hy, if_pos hy]
      generalize bkS n P B = σ at *
      generalize stD k a b ts = S at *
      simp [mt, td, w1, w2, i3, my, ty, hb]
    · have hb : decide (B.y - d < (P i).t) = false := by simp; omega
      obtain ⟨y7, y8, y9, y10, e⟩ := zs3 n P B (some (.int i)) (some (.int (P i).w)) (some (.int (P i).t)) (some (.tup [.str "laid", .int s, stD k a b ts, .int d])) (B.S i) ts a b 0 none none none none (fun t ht => by have := (hc.ok t ht).1; omega)
      rw [Int.zero_add] at e
      unfold dlB at e
      simp only [duA, duB, duH]
      rw [if_neg hy, if_neg hy, if_neg hy]
      generalize bkS n P B = σ at *
      generalize stD k a b ts = S at *
      generalize shD (B.S i) = SD at *
      generalize ts.map Ti.D = TT at *
      generalize a + sA (B.S i) B.y ts = a1 at *
      generalize b + sB (B.S i) B.y ts = b1 at *
      generalize sH (B.S i) B.y ts = h1 at *
      simp only [zud, zz4]
      have fe := zor (σ := σ) (a := .lst [.int a1, .int b1, .int h1]) (d := .tup [.int a1, .int b1, .int h1]) (by simp)
      simp [mt, td, w1, w2, i3, my, ty, hb, ms, sf, j1, j2, ybc, e, fe]
section
variable (n : Nat) (P : Nat -> Pt) (B : Bs) (p : Int) (hp : ¬ (0 <= p /\ p <= (n : Int) - 1))
include hp
theorem zko : f_Book_check_pot [.ref 0, .int p] (bkS n P B) = .ex ⟨2⟩ (bkS n P B) := by
  have h1 := zsf n P B
  have h2 := zpi n P
  have hb : (decide ((0 : Int) <= p) && decide (p <= (n : Int) - 1)) = false := by
    rw [Bool.and_eq_false_iff, decide_eq_false_iff_not, decide_eq_false_iff_not]; omega
  have bt := fun σ => zsi p 0 ((n : Int) - 1) σ
  rw [hb] at bt
  unfold f_Book_check_pot zba
  generalize bkS n P B = σ at *
  generalize yja n P = PL at *
  simp [h1, h2, bt]
theorem zs6 : f_Book_due_of [.ref 0, .int p] (bkS n P B) = .ex ⟨2⟩ (bkS n P B) := by
  have h1 := zko n P B p hp
  have h2 := fun fs => ybe n P B fs
  unfold f_Book_due_of zdp
  generalize bkS n P B = σ at *
  simp [h1, h2]
theorem zrm : f_Book_told [.ref 0, .int p] (bkS n P B) = .ex ⟨2⟩ (bkS n P B) := by
  have h1 := zko n P B p hp
  have h2 := fun fs => ybe n P B fs
  unfold f_Book_told zgj
  generalize bkS n P B = σ at *
  simp [h1, h2]
theorem zf4 : f_Book_shown_for [.ref 0, .int p] (bkS n P B) = .ex ⟨2⟩ (bkS n P B) := by
  have h1 := zko n P B p hp
  have h2 := fun fs => ybe n P B fs
  unfold f_Book_shown_for zbb
  generalize bkS n P B = σ at *
  simp [h1, h2]
theorem zq7 (w : Int) : f_Book_show [.ref 0, .int p, .int w] (bkS n P B) = .ex ⟨2⟩ (bkS n P B) := by
  have h1 := zko n P B p hp
  have h2 := fun fs => ybe n P B fs
  unfold f_Book_show zgi
  generalize bkS n P B = σ at *
  simp [h1, h2]
omit hp in
theorem znq (h : Int) (hh : ¬ (0 <= h /\ h <= 3)) : f_Book_coin_of [.ref 0, .int h] (bkS n P B) = .ex ⟨2⟩ (bkS n P B) := by
  have hd : f_is_hand [.int h] (bkS n P B) = .ok (.bl false) (bkS n P B) := by
    have hb : (decide ((0 : Int) <= h) && decide (h <= 3)) = false := by
      rw [Bool.and_eq_false_iff, decide_eq_false_iff_not, decide_eq_false_iff_not]; omega
    have bt := fun σ => zsi h 0 3 σ
    rw [hb] at bt
    unfold f_is_hand zk2
    generalize bkS n P B = σ at *
    simp [bt]
  unfold f_Book_coin_of zcq
  generalize bkS n P B = σ at *
  simp [hd]
theorem zjc (h : Int) (hh : ¬ (0 <= h /\ h <= 3)) : f__law_refused [.ref 0, .int p, .int h] (bkS n P B) = .ok (.bl true) (bkS n P B) := by
  have d1 := zs6 n P B p hp
  have d2 := zrm n P B p hp
  have d3 := zf4 n P B p hp
  have d4 := zq7 n P B p hp 3
  have d5 := znq n P B h hh
  have m1 := fun fs => mdue n P B fs
  have m2 := fun fs => mtold n P B fs
  have m3 : ∀ fs, yir [(8, f_Book_shown_for)] 2 "shown_for" fs (.ref 0) (bkS n P B) = (fs (bkS n P B)).bind (yf3 2 f_Book_shown_for (.ref 0)) := fun fs => zyo n P B _ _ rfl
  have m4 : ∀ fs, yir [(8, f_Book_show)] 3 "show" fs (.ref 0) (bkS n P B) = (fs (bkS n P B)).bind (yf3 3 f_Book_show (.ref 0)) := fun fs => zyo n P B _ _ rfl
  have m5 := fun fs => yf0 n P B fs
  have a1 : ∀ σ, yis (.str "") (.str "d") σ = .ok (.str "d") σ := fun σ => nr rfl
  have a2 : ∀ σ, yis (.str "d") (.str "t") σ = .ok (.str "dt") σ := fun σ => nr rfl
  have a3 : ∀ σ, yis (.str "dt") (.str "s") σ = .ok (.str "dts") σ := fun σ => nr rfl
  have a4 : ∀ σ, yis (.str "dts") (.str "w") σ = .ok (.str "dtsw") σ := fun σ => nr rfl
  have a5 : ∀ σ, yis (.str "dtsw") (.str "c") σ = .ok (.str "dtswc") σ := fun σ => nr rfl
  unfold f__law_refused zcu
  generalize bkS n P B = σ at *
  simp [d1, d2, d3, d4, d5, m1, m2, m3, m4, m5, a1, a2, a3, a4, a5, hdl]
end
def allZ (f : Nat -> Int) (n : Nat) : Bool := (List.range n).all fun i => f i == 0
def hh (B : Bs) (P : Nat -> Pt) (i : Nat) : Int := duH (P i) B.y (B.S i) (B.C i)
theorem zv6 (n : Nat) (P : Nat -> Pt) (B : Bs) (hn : n <= 3) (hC : ∀ i, i < n -> (B.C i).Ok (P i)) : f_Book_is_over [.ref 0] (bkS n P B) = .ok (.bl (allZ (hh B P) n)) (bkS n P B) := by
  have rk : ∀ σ, yjh (.int (n : Int)) σ = .ok (.seq (yc7 n)) σ := fun σ => by have := zwx (σ := σ) (j := (n : Int)) (by omega) (by omega); simpa using this
  have lp := zpi n P
  have bp := zsf n P B
  have lc := ya3 (ix := [0]) (ρ := [some (.ref 0)]) (σ := bkS n P B) (src := yjv (ye2 yi1 (yej (eUn (yix [8] "pots") (yif 0)) yhx))) (fe := yh9 oEq (yh9 oIx (yid [(8, f_Book_due_of)] 2 "due_of" (yif 1) (yej (yif 0) yhx)) (eC (.int 2))) (eC (.int 0))) (ds := yc7 n) (fun d => match d with | .int i => .bl (hh B P i.toNat == 0) | _ => .non)
    (by simp [bp, lp, rk]) (by simp [yc7]; omega) (fun d hd j => by
      unfold yc7 at hd
      obtain ⟨i, hi, rfl⟩ := List.mem_map.mp hd
      have hi : i < n := List.mem_range.mp hi
      rw [zyk]
      have du := zy7 n P { B with J := B.J ++ j } hi (hC i hi)
      have md := fun fs => mdue n P { B with J := B.J ++ j } fs
      unfold Bs.du du3 at du
      simp only [Int.toNat_natCast]
      unfold hh
      dsimp only at du
      generalize bkS n P { B with J := B.J ++ j } = σ at *
      generalize duA (P i) B.y (B.S i) (B.C i) = a at *
      generalize duB (P i) B.y (B.S i) (B.C i) = b at *
      generalize duH (P i) B.y (B.S i) (B.C i) = c at *
      simp [md, du]) (fun d hd => by
      unfold yc7 at hd
      obtain ⟨i, hi, rfl⟩ := List.mem_map.mp hd
      simp)
  have oa := zp1 (σ := bkS n P B) (f := fun i : Nat => hh B P i == 0) (l := List.range n)
  rw [show (yc7 n).map (fun d => match d with | .int i => D.bl (hh B P i.toNat == 0) | _ => .non) = (List.range n).map (fun i => D.bl (hh B P i == 0)) by unfold yc7; rw [List.map_map]; rfl] at lc
  unfold f_Book_is_over zcr allZ
  generalize bkS n P B = σ at *
  generalize (List.range n).map (fun i => D.bl (hh B P i == 0)) = G at *
  simp [lc, oa, -zs8]
theorem zqc (f : Nat -> Int) : ∀ (k i : Nat), (∀ j, i <= j -> j < i + k -> 0 <= f j) -> 0 <= cs f i k /\ (((List.range' i k).all fun j => f j == 0) = (cs f i k == 0))
  | 0, i, _ => by simp [cs]
  | k + 1, i, h => by
    obtain ⟨h1, h2⟩ := zqc f k (i + 1) fun j hj hk => h j (by omega) (by omega)
    have h0 := h i (Nat.le_refl _) (by omega)
    simp only [cs, List.range'_succ, List.all_cons]
    refine ⟨by omega, ?_⟩
    rw [h2]
    by_cases a : f i = 0
    · rw [a]; simp
    · have b : (f i == 0) = false := by simpa using a
      have c : (f i + cs f (i + 1) k == 0) = false := by simp; omega
      rw [b, c]; rfl
noncomputable abbrev ilB : Ev -> M Fl := (yjp (sAsg (yh9 oIx (yif 1) (yif 6)) (tgT 5 (ydx (tgN 7) (ydx (tgN 8) (ydx (tgN 9) (ydx (tgN 10) (ydx (tgN 11) yhc)))))))
  (yjp (yjq 12 (eFn 4 f__law_due [] (yej (yif 2) (yej (yif 6) (yej (yh9 yis (yif 9) (yif 10)) (yej (yif 11) yhx))))))
  (yjp (sIf (bOr (eT (yh9 oNe (yid [(8, f_Book_due_of)] 2 "due_of" (yif 2) (yej (yif 6) yhx)) (yif 12))) (yh0 (eT (eUn (yiy .tuple) (yid [(8, f_Book_due_of)] 2 "due_of" (yif 2) (yej (yif 6) yhx)))))) (yjo (eC (.bl false))) yjm)
  (yjp (ygx (yh9 yis (yh9 oIx (yif 4) (yif 7)) (yh9 oIx (yif 12) (eC (.int 0)))) (yif 4) (yif 7))
  (yjp (ygx (yh9 yis (yh9 oIx (yif 4) (yif 8)) (yh9 oIx (yif 12) (eC (.int 1)))) (yif 4) (yif 8))
  (yjq 5 (yh9 yis (yif 5) (yh9 oIx (yif 12) (eC (.int 2))))))))))
theorem pl3 (a b c : Int) : pl 8 (.tup [.int a, .int b, .int c]) = true := by simp [pl]
theorem zuh (n : Nat) (P : Nat -> Pt) (B : Bs) {i : Nat} (hi : i < n) (hP : (P i).Ok) (hc : (B.C i).Ok (P i)) (x0 x3 x7 x8 x9 x10 x11 x12 : Option D) (c0 c1 c2 c3 g : Int) : ∃ y7 y8 y9 y10 y11 y12,
    ilB [x0, some (yja n P), some (.ref 0), x3, some (.ref (bkS n P B).length), some (.int g), some (.int i), x7, x8, x9, x10, x11, x12] (bkS n P B ++ [.lst [.int c0, .int c1, .int c2, .int c3]])
      = .ok (.nx [x0, some (yja n P), some (.ref 0), x3, some (.ref (bkS n P B).length), some (.int (g + hh B P i)), some (.int i), y7, y8, y9, y10, y11, y12]) (bkS n P B ++ [.lst [.int (c0 + ct B P 0 i), .int (c1 + ct B P 1 i), .int (c2 + ct B P 2 i), .int (c3 + ct B P 3 i)]]) := by
  have ld : ∀ j, f__law_due [.ref 0, .int i, .int (P i).w, .int (P i).t] (bkS n P B ++ j) = .ok (B.du P i) (bkS n P B ++ j) := fun j => by rw [zyk]; exact zuz n P { B with J := B.J ++ j } hi hP hc
  have du : ∀ j, f_Book_due_of [.ref 0, .int i] (bkS n P B ++ j) = .ok (B.du P i) (bkS n P B ++ j) := fun j => by rw [zyk]; exact zy7 n P { B with J := B.J ++ j } hi hc
  have md : ∀ j fs, yir [(8, f_Book_due_of)] 2 "due_of" fs (.ref 0) (bkS n P B ++ j) = (fs (bkS n P B ++ j)).bind (yf3 2 f_Book_due_of (.ref 0)) := fun j fs => by rw [zyk]; exact zyo n P _ _ _ rfl
  have xp := zur n P hi
  have ew : (P i).u + (P i).v = (P i).w := rfl
  have hl := hP.l
  have hr := hP.r
  refine ⟨some (.int (P i).l), some (.int (P i).r), some (.int (P i).u), some (.int (P i).v), some (.int (P i).t), some (B.du P i), ?_⟩
  have as : ∀ (ρ : Ev) (σ : Sto), yhy (tgT 5 (ydx (tgN 7) (ydx (tgN 8) (ydx (tgN 9) (ydx (tgN 10) (ydx (tgN 11) yhc)))))) ρ (P i).D σ = .ok (.nx (((((ρ.set 7 (some (.int (P i).l))).set 8 (some (.int (P i).r))).set 9 (some (.int (P i).u))).set 10 (some (.int (P i).v))).set 11 (some (.int (P i).t)))) σ := fun ρ σ => zr7 rfl
  unfold ilB ct hh
  unfold Bs.du du3 at ld du ⊢
  generalize bkS n P B = σ at *
  generalize duA (P i) B.y (B.S i) (B.C i) = a at *
  generalize duB (P i) B.y (B.S i) (B.C i) = b at *
  generalize duH (P i) B.y (B.S i) (B.C i) = c at *
  have ne := fun σ => zp7 (σ := σ) (pl3 a b c)
  generalize (P i).D = PD at *
  generalize (P i).u = u at *
  generalize (P i).v = v at *
  generalize (P i).w = w at *
  generalize (P i).t = t at *
  generalize (P i).l = l at *
  generalize (P i).r = r at *
  generalize yja n P = PL at *
  rcases hl with rfl | rfl <;> rcases hr with rfl | rfl <;> simp [xp, as, ew, ld, md, du, ne]
theorem zug (n : Nat) (P : Nat -> Pt) (B : Bs) (hP : ∀ i, i < n -> (P i).Ok) (hC : ∀ i, i < n -> (B.C i).Ok (P i)) (x0 x3 : Option D) : ∀ (k i : Nat) (x6 x7 x8 x9 x10 x11 x12 : Option D) (c0 c1 c2 c3 g : Int), i + k = n -> ∃ y6 y7 y8 y9 y10 y11 y12,
    yin (tgN 6) ilB ((List.range' i k).map fun (k : Nat) => D.int k) [x0, some (yja n P), some (.ref 0), x3, some (.ref (bkS n P B).length), some (.int g), x6, x7, x8, x9, x10, x11, x12] (bkS n P B ++ [.lst [.int c0, .int c1, .int c2, .int c3]])
      = .ok (.nx [x0, some (yja n P), some (.ref 0), x3, some (.ref (bkS n P B).length), some (.int (g + cs (hh B P) i k)), y6, y7, y8, y9, y10, y11, y12]) (bkS n P B ++ [.lst [.int (c0 + cs (ct B P 0) i k), .int (c1 + cs (ct B P 1) i k), .int (c2 + cs (ct B P 2) i k), .int (c3 + cs (ct B P 3) i k)]]) := by
  intro k
  induction k with
  | zero => intro i x6 x7 x8 x9 x10 x11 x12 c0 c1 c2 c3 g _; exact ⟨x6, x7, x8, x9, x10, x11, x12, by simp [cs]⟩
  | succ k ih =>
    intro i x6 x7 x8 x9 x10 x11 x12 c0 c1 c2 c3 g hik
    have hi : i < n := by omega
    obtain ⟨y7, y8, y9, y10, y11, y12, e⟩ := zuh n P B hi (hP i hi) (hC i hi) x0 x3 x7 x8 x9 x10 x11 x12 c0 c1 c2 c3 g
    obtain ⟨z6, z7, z8, z9, z10, z11, z12, e2⟩ := ih (i + 1) (some (.int i)) y7 y8 y9 y10 y11 y12 (c0 + ct B P 0 i) (c1 + ct B P 1 i) (c2 + ct B P 2 i) (c3 + ct B P 3 i) (g + hh B P i) (by omega)
    refine ⟨z6, z7, z8, z9, z10, z11, z12, ?_⟩
    rw [List.range'_succ, List.map_cons, zpn]
    simp only [List.set_cons_succ, List.set_cons_zero]
    rw [e, zse, zpl, e2]
    simp only [cs, Int.add_assoc]
theorem ybl {xs : List D} (h : pl 8 (.lst xs) = true) (σ : Sto) : oNe (.lst xs) (.ref σ.length) (σ ++ [.lst xs]) = .ok (.bl false) (σ ++ [.lst xs]) := by
  have e : eqD (σ ++ [.lst xs]) 8 (.lst xs) (.ref σ.length) = some true := by
    have k : kd (σ ++ [.lst xs]) (.ref σ.length) = kd (σ ++ [.lst xs]) (.lst xs) := by
      show (match yfy (σ ++ [.lst xs]) σ.length with | some xs => Kd.l xs | none => _) = _
      rw [zlo]; rfl
    have := zn1 (σ := σ ++ [.lst xs]) 8 (.lst xs) h
    unfold eqD at this ⊢
    rw [k]; exact this
  have := ybu e
  exact this
theorem ybd (a b c d : D) (σ : Sto) : yip [a, b, c, d] σ = .ok (.ref σ.length) (σ ++ [.lst [a, b, c, d]]) := nr rfl
theorem znr (n : Nat) (P : Nat -> Pt) (B : Bs) (hn : n <= 3) (hC : ∀ i, i < n -> (B.C i).Ok (P i)) (ρ : Ev) (h2 : ρ[2]? = some (some (.ref 0))) :
    yia (eLC (yjv (eC (.int 4))) [2] (tgN 0) yeo (yid [(8, f_Book_coin_of)] 2 "coin_of" (yif 1) (yej (yif 0) yhx))) ρ (bkS n P B) = .ok (.lst [.int (cs (ct B P 0) 0 n), .int (cs (ct B P 1) 0 n), .int (cs (ct B P 2) 0 n), .int (cs (ct B P 3) 0 n)]) (bkS n P B) := by
  have r4 : ∀ σ, yjh (.int 4) σ = .ok (.seq [.int 0, .int 1, .int 2, .int 3]) σ := fun σ => by have := zwx (σ := σ) (j := 4) (by omega) (by omega); exact this
  have lc := ya3 (ix := [2]) (ρ := ρ) (σ := bkS n P B) (src := yjv (eC (.int 4))) (fe := yid [(8, f_Book_coin_of)] 2 "coin_of" (yif 1) (yej (yif 0) yhx)) (ds := [.int 0, .int 1, .int 2, .int 3]) (fun d => match d with | .int h => .int (cs (ct B P h) 0 n) | _ => .non) (by rw [zx2, ye1, zse, r4]) (by simp) (fun d hd j => by
    have : ∃ h : Int, d = .int h /\ 0 <= h /\ h <= 3 := by
      simp only [List.mem_cons, List.not_mem_nil, or_false] at hd
      rcases hd with rfl | rfl | rfl | rfl <;> exact ⟨_, rfl, by decide, by decide⟩
    obtain ⟨h, rfl, hh⟩ := this
    rw [zyk]
    have co := zsu n P { B with J := B.J ++ j } hn hC h hh
    have mc := fun fs => yf0 n P { B with J := B.J ++ j } fs
    rw [show cs (ct { B with J := B.J ++ j } P h) 0 n = cs (ct B P h) 0 n from rfl] at co
    generalize bkS n P { B with J := B.J ++ j } = σ at *
    simp [h2, mc, co]) (fun d hd => by
    simp only [List.mem_cons, List.not_mem_nil, or_false] at hd
    rcases hd with rfl | rfl | rfl | rfl <;> simp)
  exact lc
noncomputable abbrev loB : Ev -> M Fl := (yjp (yjk (eFn 3 f__law_try [] (yej (yif 2) (yej (yif 1) (yej (yif 3) yhx)))))
  (yjp (yjq 4 (yic (yej (eC (.int 0)) (yej (eC (.int 0)) (yej (eC (.int 0)) (yej (eC (.int 0)) yhx))))))
  (yjp (yjq 5 (eC (.int 0)))
  (yjp (yjl (yjv (ye2 yi1 (yej (yif 1) yhx))) (tgN 6) ilB)
  (sIf (bOr (eT (yh9 oNe (yia (eLC (yjv (eC (.int 4))) [2] (tgN 0) yeo (yid [(8, f_Book_coin_of)] 2 "coin_of" (yif 1) (yej (yif 0) yhx)))) (yif 4))) (eT (yh9 oNe (yid [(8, f_Book_is_over)] 1 "is_over" (yif 2) yhx) (yh9 oEq (yif 5) (eC (.int 0)))))) (yjo (eC (.bl false))) yjm)))))
theorem zu4 (n : Nat) (P : Nat -> Pt) (h1 : 1 <= n) (h3 : n <= 3) (hP : ∀ i, i < n -> (P i).Ok) (B : Bs) (q : Nat) (m c : Int) (hI : Iv n P q m B) (hq : q < 1000) (x0 x4 x5 x6 x7 x8 x9 x10 x11 x12 : Option D) :
    ∃ B' m' y4 y5 y6 y7 y8 y9 y10 y11 y12, Iv n P (q + 1) m' B' /\ loB [x0, some (yja n P), some (.ref 0), some (.int c), x4, x5, x6, x7, x8, x9, x10, x11, x12] (bkS n P B) = .ok (.nx [x0, some (yja n P), some (.ref 0), some (.int c), y4, y5, y6, y7, y8, y9, y10, y11, y12]) (bkS n P B') := by
  obtain ⟨d, B1, t1, st⟩ := yd0 n P B c h1 h3 hP hI.ok (fun i hi => by have := hI.sh i hi; omega)
  obtain ⟨hI1, _⟩ := ydu hP hI st
  obtain ⟨y6, y7, y8, y9, y10, y11, y12, e⟩ := zug n P B1 hP hI1.ok x0 (some (.int c)) n 0 x6 x7 x8 x9 x10 x11 x12 0 0 0 0 0 (by omega)
  simp only [Int.zero_add] at e
  rw [<- zmg] at e
  have I2 : Iv n P (q + 1) _ { B1 with J := B1.J ++ [.lst [.int (cs (ct B1 P 0) 0 n), .int (cs (ct B1 P 1) 0 n), .int (cs (ct B1 P 2) 0 n), .int (cs (ct B1 P 3) 0 n)]] } := ⟨hI1.ok, hI1.ld, hI1.m0, hI1.m1, hI1.sh⟩
  refine ⟨_, _, some (.ref (bkS n P B1).length), some (.int (cs (hh B1 P) 0 n)), y6, y7, y8, y9, y10, y11, y12, I2, ?_⟩
  have lp := zpi n P
  have rk : ∀ σ, yjh (.int (n : Int)) σ = .ok (.seq (yc7 n)) σ := fun σ => by have := zwx (σ := σ) (j := (n : Int)) (by omega) (by omega); simpa using this
  have lc := znr n P { B1 with J := B1.J ++ [.lst [.int (cs (ct B1 P 0) 0 n), .int (cs (ct B1 P 1) 0 n), .int (cs (ct B1 P 2) 0 n), .int (cs (ct B1 P 3) 0 n)]] } h3 hI1.ok [x0, some (yja n P), some (.ref 0), some (.int c), some (.ref (bkS n P B1).length), some (.int (cs (hh B1 P) 0 n)), y6, y7, y8, y9, y10, y11, y12] rfl
  have ov := zv6 n P { B1 with J := B1.J ++ [.lst [.int (cs (ct B1 P 0) 0 n), .int (cs (ct B1 P 1) 0 n), .int (cs (ct B1 P 2) 0 n), .int (cs (ct B1 P 3) 0 n)]] } h3 hI1.ok
  have mo : ∀ fs, yir [(8, f_Book_is_over)] 1 "is_over" fs (.ref 0) (bkS n P { B1 with J := B1.J ++ [.lst [.int (cs (ct B1 P 0) 0 n), .int (cs (ct B1 P 1) 0 n), .int (cs (ct B1 P 2) 0 n), .int (cs (ct B1 P 3) 0 n)]] }) = _ := fun fs => zyo n P _ f_Book_is_over fs rfl
  have ob := (zqc (hh B1 P) n 0 fun j _ hj => (ye0 (hP j (by omega)) (hI1.ok j (by omega)) B1.y (B1.S j)).2.2.1).2
  rw [<- List.range_eq_range'] at ob
  change allZ (hh B1 P) n = _ at ob
  change yia _ _ _ = Out.ok (.lst [.int (cs (ct B1 P 0) 0 n), .int (cs (ct B1 P 1) 0 n), .int (cs (ct B1 P 2) 0 n), .int (cs (ct B1 P 3) 0 n)]) _ at lc
  change _ = Out.ok (D.bl (allZ (hh B1 P) n)) _ at ov
  rw [ob] at ov
  have ne := ybl (xs := [.int (cs (ct B1 P 0) 0 n), .int (cs (ct B1 P 1) 0 n), .int (cs (ct B1 P 2) 0 n), .int (cs (ct B1 P 3) 0 n)]) (by simp [pl]) (bkS n P B1)
  rw [<- zyk] at lc ov mo ⊢
  unfold ilB at e
  unfold loB ilB
  generalize cs (ct B1 P 0) 0 n = c0 at *
  generalize cs (ct B1 P 1) 0 n = c1 at *
  generalize cs (ct B1 P 2) 0 n = c2 at *
  generalize cs (ct B1 P 3) 0 n = c3 at *
  generalize cs (hh B1 P) 0 n = hg at *
  generalize bkS n P B = σ at *
  generalize bkS n P B1 = σ1 at *
  generalize yc7 n = R at *
  generalize yja n P = PL at *
  simp [t1, ybd, lp, rk, e, lc, ne, mo, ov, -zs8]
theorem zu3 (n : Nat) (P : Nat -> Pt) (h1 : 1 <= n) (h3 : n <= 3) (hP : ∀ i, i < n -> (P i).Ok) (x0 : Option D) : ∀ (L : List Int) (B : Bs) (q : Nat) (m : Int) (x3 x4 x5 x6 x7 x8 x9 x10 x11 x12 : Option D), Iv n P q m B -> q + L.length < 1000 ->
    ∃ B' q' m' y3 y4 y5 y6 y7 y8 y9 y10 y11 y12, Iv n P q' m' B' /\ yin (tgN 3) loB (L.map D.int) [x0, some (yja n P), some (.ref 0), x3, x4, x5, x6, x7, x8, x9, x10, x11, x12] (bkS n P B) = .ok (.nx [x0, some (yja n P), some (.ref 0), y3, y4, y5, y6, y7, y8, y9, y10, y11, y12]) (bkS n P B')
  | [], B, q, m, x3, x4, x5, x6, x7, x8, x9, x10, x11, x12, hI, _ => ⟨B, q, m, x3, x4, x5, x6, x7, x8, x9, x10, x11, x12, hI, by simp⟩
  | c :: L, B, q, m, x3, x4, x5, x6, x7, x8, x9, x10, x11, x12, hI, hq => by
    simp only [List.length_cons] at hq
    obtain ⟨B1, m1, y4, y5, y6, y7, y8, y9, y10, y11, y12, I1, e1⟩ := zu4 n P h1 h3 hP B q m c hI (by omega) x0 x4 x5 x6 x7 x8 x9 x10 x11 x12
    obtain ⟨B2, q2, m2, z3, z4, z5, z6, z7, z8, z9, z10, z11, z12, I2, e2⟩ := zu3 n P h1 h3 hP x0 L B1 (q + 1) m1 (some (.int c)) y4 y5 y6 y7 y8 y9 y10 y11 y12 I1 (by omega)
    refine ⟨B2, q2, m2, z3, z4, z5, z6, z7, z8, z9, z10, z11, z12, I2, ?_⟩
    rw [List.map_cons, zpn]
    simp only [List.set_cons_succ, List.set_cons_zero]
    rw [e1, zse, zpl, e2]
theorem ya2 {fe : Ev -> M D} {ds : List (D × D)} {yjg : Ev} {σ0 : Sto} (y : D × D -> D)
    (step : ∀ d ∈ ds, ∀ j, fe (some d.1 :: some d.2 :: yjg) (σ0 ++ j) = .ok (y d) (σ0 ++ j)) (hl : ds.length <= 1000) :
    ∀ (k i : Nat) (o o' : Option D) (ys : List D), ds.length < k + i -> i <= ds.length -> ys.length <= i ->
      ya1 (.seq (ds.map fun d => .tup [d.1, d.2])) σ0.length (tgT 2 (ydx (tgN 0) (ydx (tgN 1) yhc))) yeo fe k i (o :: o' :: yjg) (σ0 ++ [.lst ys]) = .ok () (σ0 ++ [.lst (ys ++ (ds.drop i).map y)]) := by
  intro k
  induction k with
  | zero => intro i o o' ys h1 h2; omega
  | succ k ih =>
    intro i o o' ys h1 h2 hy
    unfold ya1
    show (match some (ds.map fun d => D.tup [d.1, d.2])[i]? with | none => _ | some none => _ | some (some d) => _) = _
    rw [List.getElem?_map]
    cases e : ds[i]? with
    | none =>
      have hi : ds.length <= i := List.getElem?_eq_none_iff.mp e
      rw [List.drop_eq_nil_of_le hi]; simp
    | some d =>
      obtain ⟨hi, ed⟩ := List.getElem?_eq_some_iff.mp e
      have hd : ds.drop i = d :: ds.drop (i + 1) := by rw [<- ed]; exact List.drop_eq_getElem_cons hi
      have s2 := step d (by rw [<- ed]; exact List.getElem_mem hi) [.lst ys]
      show bnd (nox (yeo (some d.1 :: some d.2 :: yjg))) _ _ = _
      rw [zyr, ybp (show yeo (some d.1 :: some d.2 :: yjg) (σ0 ++ [.lst ys]) = .ok true (σ0 ++ [.lst ys]) from rfl), zse]
      rw [if_pos rfl]
      show bnd (nox (fe (some d.1 :: some d.2 :: yjg))) _ _ = _
      rw [zyr, ybp s2, zse, zyr, zhz (by omega), zse]
      show ya1 _ _ _ _ _ k (i + 1) (some d.1 :: some d.2 :: yjg) _ = _
      rw [ih (i + 1) (some d.1) (some d.2) (ys ++ [y d]) (by omega) (by omega) (by simp; omega), hd]
      simp
theorem zuu {src : Ev -> M Src} {ix : List Nat} {fe : Ev -> M D} {ds : List (D × D)} {ρ : Ev} {σ : Sto} (y : D × D -> D) (hs : src ρ σ = .ok (.seq (ds.map fun d => .tup [d.1, d.2])) σ) (hl : ds.length <= 1000)
    (step : ∀ d ∈ ds, ∀ j, fe (some d.1 :: some d.2 :: (ix.map fun i => (ρ[i]?).getD none)) (σ ++ j) = .ok (y d) (σ ++ j)) (hc : ∀ d ∈ ds, cl (y d) = true) :
    yia (yib src ix (tgT 2 (ydx (tgN 0) (ydx (tgN 1) yhc))) yeo fe) ρ σ = .ok (.lst (ds.map y)) σ := by
  show yig σ (yib src ix (tgT 2 (ydx (tgN 0) (ydx (tgN 1) yhc))) yeo fe ρ σ) = _
  have e : yib src ix (tgT 2 (ydx (tgN 0) (ydx (tgN 1) yhc))) yeo fe ρ σ = .ok (.ref σ.length) (σ ++ [.lst (ds.map y)]) := by
    show bnd (src ρ) (lcK _ yeo fe (zyp ix ρ)) σ = _
    rw [zyr, hs, zse]
    show bnd (ya1 (.seq (ds.map fun d => .tup [d.1, d.2])) σ.length _ yeo fe 1001 0 (none :: none :: (ix.map fun i => (ρ[i]?).getD none))) _ (σ ++ [.lst []]) = _
    rw [zyr, ya2 y step hl 1001 0 none none [] (by omega) (by omega) (by simp), zse]
    simp
  rw [e]
  have := zot (σ := σ) (j := []) (j' := []) (xs := ds.map y) (zsl fun d hd => by obtain ⟨x, hx, rfl⟩ := List.mem_map.mp hd; exact hc x hx)
  simpa using this
@[simp] theorem zq9 (xs : List Int) (lo hi : Option Int) (σ : Sto) : yjt (.scr xs) lo hi σ = .ok (.lst (yh4 (xs.map D.int) lo hi)) σ := nr rfl
theorem zsv (ns : List Int) : ∃ L : List Int, yh4 (ns.map D.int) (some 4) (some 44) = L.map D.int /\ L.length <= 40 := by
  refine ⟨(ns.drop (HT.sIx ns.length 0 (some 4))).take (HT.sIx ns.length ns.length (some 44) - HT.sIx ns.length 0 (some 4)), ?_, ?_⟩
  · unfold yh4; rw [List.length_map, List.map_take, List.map_drop]
  · simp [HT.sIx]; omega
noncomputable def tlT : Ev -> M Fl := (yjp (yjq 2 (ye4 8 2 f_Book___init__ (yej (yif 1) yhx)))
  (yjp (yjl (yjw (eSl (yif 0) (some (eC (.int 4))) (some (eC (.int 44))))) (tgN 3) loB)
  (yjo (ye2 yit (yej (yia (yib (yjw (eLv (yej (yie (yej (ye2 yi1 (yej (yif 1) yhx)) (yej (eC (.int 4)) yhx))) (yej (yie (yej (eUn yi4 (eC (.int 1))) (yej (eUn yi4 (eC (.int 1))) yhx))) (yej (yie (yej (eC (.int 7)) (yej (eC (.int 100)) yhx))) (yej (yie (yej (eUn yi4 (ye2 yi1 (yej (yif 1) yhx))) (yej (eUn yi4 (eC (.int 4))) yhx))) yhx)))))) [2] (tgT 2 (ydx (tgN 0) (ydx (tgN 1) yhc))) yeo (eFn 3 f__law_refused [] (yej (yif 2) (yej (yif 0) (yej (yif 1) yhx)))))) yhx)))))
theorem zoz : yfm = (yjp (yjq 1 (eFn 1 f__law_pots [] (yej (yif 0) yhx)))
  (yjp (sIf (eT (yh9 oEq (yh9 yi2 (yh9 yiw (eFn 2 f__law_cell_at [] (yej (yif 0) (yej (eC (.int 0)) yhx))) (eC (.int 3))) (eC (.int 4))) (eC (.int 1)))) (yjq 1 (yh9 yi7 (eSl (yif 1) none (some (eC (.int 1)))) (ye2 yi1 (yej (yif 1) yhx)))) yjm) tlT)) := nr rfl
theorem yek (σ : Sto) : yit [.lst [.bl true, .bl true, .bl true, .bl true]] σ = .ok (.bl true) σ := by simp [yit, yes]
theorem yhf (ns : List Int) (n : Nat) (P : Nat -> Pt) (h1 : 1 <= n) (h3 : n <= 3) (hP : ∀ i, i < n -> (P i).Ok) : ∃ σ, tlT [some (.scr ns), some (yja n P), none, none, none, none, none, none, none, none, none, none, none] [] = .ok (.rt (.bl true)) σ := by
  have ini := zuj n P h1 h3 hP
  obtain ⟨L, eL, hL⟩ := zsv ns
  have I0 : Iv n P 0 0 B0 := ⟨fun i _ => trivial, fun i _ s k a b ts d e => (by cases e), by decide, by decide, fun i _ => by simp [B0]⟩
  obtain ⟨B', q', m', y3, y4, y5, y6, y7, y8, y9, y10, y11, y12, I', e⟩ := zu3 n P h1 h3 hP (some (.scr ns)) L B0 0 0 none none none none none none none none none none I0 (by omega)
  have lp := zpi n P
  have mkb : yf7 0 (f_Book___init__ [.ref 0, yja n P] [.ins 8 []]) = .ok (.ref 0) (bkS n P B0) := by rw [ini]; rfl
  have lc := zuu (ix := [2]) (ρ := [some (.scr ns), some (yja n P), some (.ref 0), y3, y4, y5, y6, y7, y8, y9, y10, y11, y12]) (σ := bkS n P B') (src := yjw (eLv (yej (yie (yej (ye2 yi1 (yej (yif 1) yhx)) (yej (eC (.int 4)) yhx))) (yej (yie (yej (eUn yi4 (eC (.int 1))) (yej (eUn yi4 (eC (.int 1))) yhx))) (yej (yie (yej (eC (.int 7)) (yej (eC (.int 100)) yhx))) (yej (yie (yej (eUn yi4 (ye2 yi1 (yej (yif 1) yhx))) (yej (eUn yi4 (eC (.int 4))) yhx))) yhx)))))) (fe := eFn 3 f__law_refused [] (yej (yif 2) (yej (yif 0) (yej (yif 1) yhx)))) (ds := [(.int n, .int 4), (.int (-1), .int (-1)), (.int 7, .int 100), (.int (-(n : Int)), .int (-4))]) (fun _ => .bl true)
    (by simp [lp]) (by simp) (fun d hd j => by
      have : ∃ p h : Int, d = (.int p, .int h) /\ ¬ (0 <= p /\ p <= (n : Int) - 1) /\ ¬ (0 <= h /\ h <= 3) := by
        simp only [List.mem_cons, List.not_mem_nil, or_false] at hd
        rcases hd with rfl | rfl | rfl | rfl
        · exact ⟨_, _, rfl, by omega, by omega⟩
        · exact ⟨_, _, rfl, by omega, by omega⟩
        · exact ⟨_, _, rfl, by omega, by omega⟩
        · exact ⟨_, _, rfl, by omega, by omega⟩
      obtain ⟨p, h, rfl, hp, hh⟩ := this
      rw [zyk]
      have rf := zjc n P { B' with J := B'.J ++ j } p hp h hh
      generalize bkS n P { B' with J := B'.J ++ j } = σ at *
      simp [rf]) (fun _ _ => by simp)
  simp only [List.map_cons, List.map_nil] at lc
  refine ⟨bkS n P B', ?_⟩
  unfold tlT
  unfold loB at e
  generalize bkS n P B' = σ' at *
  generalize bkS n P B0 = σ0 at *
  generalize L.map D.int = L0 at *
  generalize yja n P = PL at *
  simp [mkb, eL, e, lc, yek, -zs8, -zw1]
  simp only [zw1, zx3, zza, zzc, zse, zxj, zta, ye1, zv8, zxk, zq9, eL, zmr, yd6, zop, e]
  simp [lc, yek, -zs8]
theorem law_true (ns : List Int) (hns : ns.length <= 63) : ∃ σ, f_law [.scr ns] [] = .ok (.bl true) σ := by
  obtain ⟨n, hn⟩ : ∃ n : Nat, (n : Int) = 1 + yeu ns 0 % 3 := ⟨(1 + yeu ns 0 % 3).toNat, by omega⟩
  have h1 : 1 <= n := by omega
  have h3 : n <= 3 := by omega
  have hP : ∀ i, i < n -> (yjb ns i).Ok := fun i _ => ybi _
  have ps := zwk ns n hn []
  have c0 := fun σ => zsj ns 0 (by decide) σ
  rw [Int.toNat_zero] at c0
  generalize yeu ns 0 = z at *
  obtain ⟨s1, t1⟩ := yhf ns n (yjb ns) h1 h3 hP
  obtain ⟨s2, t2⟩ := yhf ns n (fun _ => yjb ns 0) h1 h3 (fun i _ => hP 0 (by omega))
  generalize yjb ns = P at *
  have lp := zpi n P
  have r1 : ∀ σ, yjt (yja n P) none (some 1) σ = .ok (.lst [(P 0).D]) σ := by
    have hc : n = 1 \/ n = 2 \/ n = 3 := by omega
    intro σ
    rcases hc with rfl | rfl | rfl <;> rfl
  have r2 : ∀ σ, yi7 (.lst [(P 0).D]) (.int n) σ = .ok (yja n (fun _ => P 0)) σ := by
    have hc : n = 1 \/ n = 2 \/ n = 3 := by omega
    intro σ
    rcases hc with rfl | rfl | rfl <;> rfl
  unfold f_law
  rw [zoz]
  by_cases hz : z / 3 % 4 = 1
  · have b : (z / 3 % 4 == 1) = true := by simpa using hz
    refine ⟨s2, ?_⟩
    generalize yja n (fun _ => P 0) = PL2 at *
    generalize (P 0).D = PD at *
    generalize yja n P = PL at *
    simp [ps, c0, b, lp, r1, r2, t2]
  · have b : (z / 3 % 4 == 1) = false := by simpa using hz
    refine ⟨s1, ?_⟩
    generalize yja n (fun _ => P 0) = PL2 at *
    generalize yja n P = PL at *
    simp [ps, c0, b, t1]
end K15
open PySem PySem.W PyProof.Rows
set_option maxRecDepth 100000 in
set_option maxHeartbeats 0 in
theorem PySem.Challenge.cw_sidebook_k15_what_is_due_holds : PySem.Challenge.rw_sidebook_k15_what_is_due.Holds := by
  w_on; o_law; k_head; (case hw => w_witness2)
  k_fill
  refine L4.walkL (l := PySem.Challenge.rw_sidebook_k15_what_is_due) (k := 12) (x := "_law_script") (fn := K15.f_law) rfl rfl ⟨rfl, by decide, by decide⟩ (fun w h Y => PySem.W.kIn_of Y) ?F K15.law_true
  case F =>
    intro w mg h KX G
    have h__law_cell_at : L4.yeb (L2.KOf KX) mg "_law_cell_at" (K15.top 55) ["_law_script", "_law_k"] := by
      dsimp only [L2.KOf]
      refine' L4.mkF KX G K15.zbu ?a ?l ?c ?k
      (case a => k_is); (case l => k_is); (case c => k_is); (case k => k_is)
    have h__law_mixed : L4.yeb (L2.KOf KX) mg "_law_mixed" (K15.top 56) ["_law_cell", "_law_k"] := by
      dsimp only [L2.KOf]
      refine' L4.mkF KX G K15.zdk ?a ?l ?c ?k
      (case a => k_is); (case l => k_is); (case c => k_is); (case k => k_is)
    have h__law_pots : L4.yeb (L2.KOf KX) mg "_law_pots" (K15.top 58) ["_law_script"] := by
      dsimp only [L2.KOf]
      refine' L4.mkF KX G K15.zep ?a ?l ?c ?k
      (case a => k_is); (case l => k_is); (case c => k_is); (case k => k_is)
    have h_is_whole : L4.yeb (L2.KOf KX) mg "is_whole" (K15.top 8) ["thing"] := by
      dsimp only [L2.KOf]
      refine' L4.mkF KX G K15.zgc ?a ?l ?c ?k
      (case a => k_is); (case l => k_is); (case c => k_is); (case k => k_is)
    have h_is_between : L4.yeb (L2.KOf KX) mg "is_between" (K15.top 9) ["thing", "least", "most"] := by
      dsimp only [L2.KOf]
      refine' L4.mkF KX G K15.zdn ?a ?l ?c ?k
      (case a => k_is); (case l => k_is); (case c => k_is); (case k => k_is)
    have h_is_hand : L4.yeb (L2.KOf KX) mg "is_hand" (K15.top 11) ["thing"] := by
      dsimp only [L2.KOf]
      refine' L4.mkF KX G K15.zh0 ?a ?l ?c ?k
      (case a => k_is); (case l => k_is); (case c => k_is); (case k => k_is)
    have h_makes_a_pot : L4.yeb (L2.KOf KX) mg "makes_a_pot" (K15.top 48) ["thing"] := by
      dsimp only [L2.KOf]
      refine' L4.mkF KX G K15.zcp ?a ?l ?c ?k
      (case a => k_is); (case l => k_is); (case c => k_is); (case k => k_is)
    have h_checked_pots : L4.yeb (L2.KOf KX) mg "checked_pots" (K15.top 49) ["pots"] := by
      dsimp only [L2.KOf]
      refine' L4.mkF KX G K15.zbw ?a ?l ?c ?k
      (case a => k_is); (case l => k_is); (case c => k_is); (case k => k_is)
    have h_whole_of : L4.yeb (L2.KOf KX) mg "whole_of" (K15.top 50) ["made"] := by
      dsimp only [L2.KOf]
      refine' L4.mkF KX G K15.zge ?a ?l ?c ?k
      (case a => k_is); (case l => k_is); (case c => k_is); (case k => k_is)
    have h__law_small_stand : L4.yeb (L2.KOf KX) mg "_law_small_stand" (K15.top 57) ["_law_cell", "_law_whole"] := by
      dsimp only [L2.KOf]
      refine' L4.mkF KX G K15.zab ?a ?l ?c ?k
      (case a => k_is); (case l => k_is); (case c => k_is); (case k => k_is)
    have h_is_word : L4.yeb (L2.KOf KX) mg "is_word" (K15.top 12) ["thing"] := by
      dsimp only [L2.KOf]
      refine' L4.mkF KX G K15.zh2 ?a ?l ?c ?k
      (case a => k_is); (case l => k_is); (case c => k_is); (case k => k_is)
    have h_is_side : L4.yeb (L2.KOf KX) mg "is_side" (K15.top 10) ["thing"] := by
      dsimp only [L2.KOf]
      refine' L4.mkF KX G K15.zh1 ?a ?l ?c ?k
      (case a => k_is); (case l => k_is); (case c => k_is); (case k => k_is)
    have h_check_side : L4.yeb (L2.KOf KX) mg "check_side" (K15.top 52) ["side"] := by
      dsimp only [L2.KOf]
      refine' L4.mkF KX G K15.zdm ?a ?l ?c ?k
      (case a => k_is); (case l => k_is); (case c => k_is); (case k => k_is)
    have h_deals : L4.yeb (L2.KOf KX) mg "deals" (K15.top 32) ["one"] := by
      dsimp only [L2.KOf]
      refine' L4.mkF KX G K15.znb ?a ?l ?c ?k
      (case a => k_is); (case l => k_is); (case c => k_is); (case k => k_is)
    have h_is_day : L4.yeb (L2.KOf KX) mg "is_day" (K15.top 13) ["thing"] := by
      dsimp only [L2.KOf]
      refine' L4.mkF KX G K15.zj5 ?a ?l ?c ?k
      (case a => k_is); (case l => k_is); (case c => k_is); (case k => k_is)
    have h_is_amount : L4.yeb (L2.KOf KX) mg "is_amount" (K15.top 15) ["thing"] := by
      dsimp only [L2.KOf]
      refine' L4.mkF KX G K15.zer ?a ?l ?c ?k
      (case a => k_is); (case l => k_is); (case c => k_is); (case k => k_is)
    have h_is_tie : L4.yeb (L2.KOf KX) mg "is_tie" (K15.top 26) ["thing"] := by
      dsimp only [L2.KOf]
      refine' L4.mkF KX G K15.zj7 ?a ?l ?c ?k
      (case a => k_is); (case l => k_is); (case c => k_is); (case k => k_is)
    have h_are_ties : L4.yeb (L2.KOf KX) mg "are_ties" (K15.top 28) ["thing"] := by
      dsimp only [L2.KOf]
      refine' L4.mkF KX G K15.zf9 ?a ?l ?c ?k
      (case a => k_is); (case l => k_is); (case c => k_is); (case k => k_is)
    have h_are_shares : L4.yeb (L2.KOf KX) mg "are_shares" (K15.top 27) ["thing"] := by
      dsimp only [L2.KOf]
      refine' L4.mkF KX G K15.zdl ?a ?l ?c ?k
      (case a => k_is); (case l => k_is); (case c => k_is); (case k => k_is)
    have h_is_number : L4.yeb (L2.KOf KX) mg "is_number" (K15.top 14) ["thing"] := by
      dsimp only [L2.KOf]
      refine' L4.mkF KX G K15.zes ?a ?l ?c ?k
      (case a => k_is); (case l => k_is); (case c => k_is); (case k => k_is)
    have h_is_stand : L4.yeb (L2.KOf KX) mg "is_stand" (K15.top 29) ["thing"] := by
      dsimp only [L2.KOf]
      refine' L4.mkF KX G K15.zga ?a ?l ?c ?k
      (case a => k_is); (case l => k_is); (case c => k_is); (case k => k_is)
    have h_is_stand_of : L4.yeb (L2.KOf KX) mg "is_stand_of" (K15.top 33) ["thing", "coin"] := by
      dsimp only [L2.KOf]
      refine' L4.mkF KX G K15.zco ?a ?l ?c ?k
      (case a => k_is); (case l => k_is); (case c => k_is); (case k => k_is)
    have h_other_side : L4.yeb (L2.KOf KX) mg "other_side" (K15.top 17) ["side"] := by
      dsimp only [L2.KOf]
      refine' L4.mkF KX G K15.zdo ?a ?l ?c ?k
      (case a => k_is); (case l => k_is); (case c => k_is); (case k => k_is)
    have h_is_pot : L4.yeb (L2.KOf KX) mg "is_pot" (K15.top 16) ["thing"] := by
      dsimp only [L2.KOf]
      refine' L4.mkF KX G K15.zj6 ?a ?l ?c ?k
      (case a => k_is); (case l => k_is); (case c => k_is); (case k => k_is)
    have h_is_of_a_side : L4.yeb (L2.KOf KX) mg "is_of_a_side" (K15.top 37) ["thing"] := by
      dsimp only [L2.KOf]
      refine' L4.mkF KX G K15.zbx ?a ?l ?c ?k
      (case a => k_is); (case l => k_is); (case c => k_is); (case k => k_is)
    have h_is_thing : L4.yeb (L2.KOf KX) mg "is_thing" (K15.top 38) ["thing"] := by
      dsimp only [L2.KOf]
      refine' L4.mkF KX G K15.zgb ?a ?l ?c ?k
      (case a => k_is); (case l => k_is); (case c => k_is); (case k => k_is)
    have h_is_agreed : L4.yeb (L2.KOf KX) mg "is_agreed" (K15.top 51) ["pot", "side", "stand", "agreement"] := by
      dsimp only [L2.KOf]
      refine' L4.mkF KX G K15.zeq ?a ?l ?c ?k
      (case a => k_is); (case l => k_is); (case c => k_is); (case k => k_is)
    have h_stand : L4.zye (L2.KOf KX) mg "stand" (K15.top 30) ["number", "shares", "ties"] [Value.none] := by
      dsimp only [L2.KOf]
      refine' L4.mkFD KX G K15.znd ?a ?l ?c ?k ?d
      (case a => k_is); (case l => k_is); (case c => k_is); (case k => k_is); (case d => k_is)
    have h_first : L4.yeb (L2.KOf KX) mg "first" (K15.top 31) ["left", "right"] := by
      dsimp only [L2.KOf]
      refine' L4.mkF KX G K15.znc ?a ?l ?c ?k
      (case a => k_is); (case l => k_is); (case c => k_is); (case k => k_is)
    have h__law_try : L4.yeb (L2.KOf KX) mg "_law_try" (K15.top 59) ["_law_book", "_law_pots_here", "_law_cell"] := by
      dsimp only [L2.KOf]
      refine' L4.mkF KX G K15.zf8 ?a ?l ?c ?k
      (case a => k_is); (case l => k_is); (case c => k_is); (case k => k_is)
    have h__law_due : L4.yeb (L2.KOf KX) mg "_law_due" (K15.top 60) ["_law_book", "_law_pot", "_law_whole", "_law_wait"] := by
      dsimp only [L2.KOf]
      refine' L4.mkF KX G K15.zf7 ?a ?l ?c ?k
      (case a => k_is); (case l => k_is); (case c => k_is); (case k => k_is)
    have h_shown_in_time : L4.yeb (L2.KOf KX) mg "shown_in_time" (K15.top 35) ["tie", "shown"] := by
      dsimp only [L2.KOf]
      refine' L4.mkF KX G K15.za9 ?a ?l ?c ?k
      (case a => k_is); (case l => k_is); (case c => k_is); (case k => k_is)
    have h_side_due : L4.yeb (L2.KOf KX) mg "side_due" (K15.top 40) ["tie", "day", "shown"] := by
      dsimp only [L2.KOf]
      refine' L4.mkF KX G K15.zgd ?a ?l ?c ?k
      (case a => k_is); (case l => k_is); (case c => k_is); (case k => k_is)
    have h_with_more : L4.yeb (L2.KOf KX) mg "with_more" (K15.top 34) ["shares", "side", "amount"] := by
      dsimp only [L2.KOf]
      refine' L4.mkF KX G K15.zet ?a ?l ?c ?k
      (case a => k_is); (case l => k_is); (case c => k_is); (case k => k_is)
    have h__law_refused : L4.yeb (L2.KOf KX) mg "_law_refused" (K15.top 61) ["_law_book", "_law_pot", "_law_hand"] := by
      dsimp only [L2.KOf]
      refine' L4.mkF KX G K15.zbv ?a ?l ?c ?k
      (case a => k_is); (case l => k_is); (case c => k_is); (case k => k_is)
    have h_law : L4.yeb (L2.KOf KX) mg "law" (K15.top 62) ["_law_script"] := by
      dsimp only [L2.KOf]
      refine' L4.mkF KX G K15.zyj ?a ?l ?c ?k
      (case a => k_is); (case l => k_is); (case c => k_is); (case k => k_is)
    have n_all : mg "all" = none := by
      refine' PySem.W.mg_none_of KX G ?a
      (case a => k_is)
    have n_bool : mg "bool" = none := by
      refine' PySem.W.mg_none_of KX G ?a
      (case a => k_is)
    have n_dict : mg "dict" = none := by
      refine' PySem.W.mg_none_of KX G ?a
      (case a => k_is)
    have n_enumerate : mg "enumerate" = none := by
      refine' PySem.W.mg_none_of KX G ?a
      (case a => k_is)
    have n_int : mg "int" = none := by
      refine' PySem.W.mg_none_of KX G ?a
      (case a => k_is)
    have n_isinstance : mg "isinstance" = none := by
      refine' PySem.W.mg_none_of KX G ?a
      (case a => k_is)
    have n_len : mg "len" = none := by
      refine' PySem.W.mg_none_of KX G ?a
      (case a => k_is)
    have n_list : mg "list" = none := by
      refine' PySem.W.mg_none_of KX G ?a
      (case a => k_is)
    have n_min : mg "min" = none := by
      refine' PySem.W.mg_none_of KX G ?a
      (case a => k_is)
    have n_range : mg "range" = none := by
      refine' PySem.W.mg_none_of KX G ?a
      (case a => k_is)
    have n_set : mg "set" = none := by
      refine' PySem.W.mg_none_of KX G ?a
      (case a => k_is)
    have n_str : mg "str" = none := by
      refine' PySem.W.mg_none_of KX G ?a
      (case a => k_is)
    have n_sum : mg "sum" = none := by
      refine' PySem.W.mg_none_of KX G ?a
      (case a => k_is)
    have n_tuple : mg "tuple" = none := by
      refine' PySem.W.mg_none_of KX G ?a
      (case a => k_is)
    have c_MOST_AMOUNT : ∃ t, mg "MOST_AMOUNT" = some (.int 1000000000000 t) := by
      refine' L4.mkI KX G ?a
      (case a => k_is)
    have c_MOST_COIN : ∃ t, mg "MOST_COIN" = some (.int 1000000000000 t) := by
      refine' L4.mkI KX G ?a
      (case a => k_is)
    have c_MOST_DAY : ∃ t, mg "MOST_DAY" = some (.int 1000000 t) := by
      refine' L4.mkI KX G ?a
      (case a => k_is)
    have c_MOST_HAND : ∃ t, mg "MOST_HAND" = some (.int 3 t) := by
      refine' L4.mkI KX G ?a
      (case a => k_is)
    have c_MOST_NUMBER : ∃ t, mg "MOST_NUMBER" = some (.int 1000000 t) := by
      refine' L4.mkI KX G ?a
      (case a => k_is)
    have c_MOST_POT : ∃ t, mg "MOST_POT" = some (.int 2 t) := by
      refine' L4.mkI KX G ?a
      (case a => k_is)
    have c_MOST_SHARE : ∃ t, mg "MOST_SHARE" = some (.int 2000000000000 t) := by
      refine' L4.mkI KX G ?a
      (case a => k_is)
    have c_MOST_TIES : ∃ t, mg "MOST_TIES" = some (.int 6 t) := by
      refine' L4.mkI KX G ?a
      (case a => k_is)
    have c_MOST_WAIT : ∃ t, mg "MOST_WAIT" = some (.int 100 t) := by
      refine' L4.mkI KX G ?a
      (case a => k_is)
    have c_MOST_WORD : ∃ t, mg "MOST_WORD" = some (.int 59 t) := by
      refine' L4.mkI KX G ?a
      (case a => k_is)
    refine' (have q0 : PySem.W.nsIn (L2.KOf KX) mainGlobals "BookError" = some (some (.ref ?C0)) := ?p0; ?_)
    (case p0 => dsimp only [L2.KOf]; first | k_is | k_exc | rfl)
    refine' (have q1 : PySem.W.excIn (L2.KOf KX) ?C0 L4.veB "ValueError.__new__" = true := ?p1; ?_)
    (case p1 => dsimp only [L2.KOf]; first | k_is | k_exc | rfl)
    refine' (have q2 : PySem.W.nsIn (L2.KOf KX) mainGlobals "NoStand" = some (some (.ref ?C1)) := ?p2; ?_)
    (case p2 => dsimp only [L2.KOf]; first | k_is | k_exc | rfl)
    refine' (have q3 : PySem.W.excIn (L2.KOf KX) ?C1 L4.veB "ValueError.__new__" = true := ?p3; ?_)
    (case p3 => dsimp only [L2.KOf]; first | k_is | k_exc | rfl)
    refine' (have q4 : PySem.W.nsIn (L2.KOf KX) mainGlobals "NoDeed" = some (some (.ref ?C2)) := ?p4; ?_)
    (case p4 => dsimp only [L2.KOf]; first | k_is | k_exc | rfl)
    refine' (have q5 : PySem.W.excIn (L2.KOf KX) ?C2 L4.veB "ValueError.__new__" = true := ?p5; ?_)
    (case p5 => dsimp only [L2.KOf]; first | k_is | k_exc | rfl)
    refine' (have q6 : PySem.W.exmOne (L2.KOf KX) (.ref ?C0) (.ref ?C2) = some false := ?p6; ?_)
    (case p6 => dsimp only [L2.KOf]; first | k_is | k_exc | rfl)
    refine' (have q7 : PySem.W.exmOne (L2.KOf KX) (.ref ?C2) (.ref ?C2) = some true := ?p7; ?_)
    (case p7 => dsimp only [L2.KOf]; first | k_is | k_exc | rfl)
    refine' (have q8 : PySem.W.exmOne (L2.KOf KX) (.ref ?C1) (.ref ?C2) = some false := ?p8; ?_)
    (case p8 => dsimp only [L2.KOf]; first | k_is | k_exc | rfl)
    refine' (have q9 : PySem.W.nsIn (L2.KOf KX) mainGlobals "Claim" = some (some (.ref ?C4)) := ?p9; ?_)
    (case p9 => dsimp only [L2.KOf]; first | k_is | k_exc | rfl)
    refine' (have q10 : PySem.W.nsIn (L2.KOf KX) mainGlobals "Held" = some (some (.ref ?C5)) := ?p10; ?_)
    (case p10 => dsimp only [L2.KOf]; first | k_is | k_exc | rfl)
    refine' (have q11 : PySem.W.nsIn (L2.KOf KX) mainGlobals "Laid" = some (some (.ref ?C6)) := ?p11; ?_)
    (case p11 => dsimp only [L2.KOf]; first | k_is | k_exc | rfl)
    refine' (have q12 : PySem.W.nsIn (L2.KOf KX) mainGlobals "Taken" = some (some (.ref ?C7)) := ?p12; ?_)
    (case p12 => dsimp only [L2.KOf]; first | k_is | k_exc | rfl)
    refine' (have q13 : PySem.W.nsIn (L2.KOf KX) mainGlobals "Book" = some (some (.ref ?C8)) := ?p13; ?_)
    (case p13 => dsimp only [L2.KOf]; first | k_is | k_exc | rfl)
    refine' (have q14 : PySem.W.findIn (L2.KOf KX) (.ref ?C4) "__init__" = some (some (.ref ?C9)) := ?p14; ?_)
    (case p14 => dsimp only [L2.KOf]; first | k_is | k_exc | rfl)
    refine' (have q15 : L4.HasM (L2.KOf KX) ?C4 "__init__" "Claim.__init__" (L4.yf4 (K15.top 41) 0) ["self", "whole"] ?C9 := ?p15; ?_)
    (case p15 => dsimp only [L2.KOf]; refine' L4.mkM K15.zas ?l ?c ?k; (case l => k_is); (case c => k_is); (case k => k_is))
    refine' (have q16 : PySem.W.findIn (L2.KOf KX) (.ref ?C8) "__init__" = some (some (.ref ?C22)) := ?p16; ?_)
    (case p16 => dsimp only [L2.KOf]; first | k_is | k_exc | rfl)
    refine' (have q17 : L4.HasM (L2.KOf KX) ?C8 "__init__" "Book.__init__" (L4.yf4 (K15.top 53) 0) ["self", "pots"] ?C22 := ?p17; ?_)
    (case p17 => dsimp only [L2.KOf]; refine' L4.mkM K15.za6 ?l ?c ?k; (case l => k_is); (case c => k_is); (case k => k_is))
    refine' (have q18 : PySem.W.findIn (L2.KOf KX) (.ref ?C8) "next_day" = some (some (.ref ?C25)) := ?p18; ?_)
    (case p18 => dsimp only [L2.KOf]; first | k_is | k_exc | rfl)
    refine' (have q19 : L4.HasM (L2.KOf KX) ?C8 "next_day" "Book.next_day" (L4.yf4 (K15.top 53) 3) ["self"] ?C25 := ?p19; ?_)
    (case p19 => dsimp only [L2.KOf]; refine' L4.mkM K15.za7 ?l ?c ?k; (case l => k_is); (case c => k_is); (case k => k_is))
    refine' (have q20 : PySem.W.findIn (L2.KOf KX) (.ref ?C8) "check_pot" = some (some (.ref ?C23)) := ?p20; ?_)
    (case p20 => dsimp only [L2.KOf]; first | k_is | k_exc | rfl)
    refine' (have q21 : L4.HasM (L2.KOf KX) ?C8 "check_pot" "Book.check_pot" (L4.yf4 (K15.top 53) 1) ["self", "pot"] ?C23 := ?p21; ?_)
    (case p21 => dsimp only [L2.KOf]; refine' L4.mkM K15.zaq ?l ?c ?k; (case l => k_is); (case c => k_is); (case k => k_is))
    refine' (have q22 : PySem.W.findIn (L2.KOf KX) (.ref ?C8) "show" = some (some (.ref ?C26)) := ?p22; ?_)
    (case p22 => dsimp only [L2.KOf]; first | k_is | k_exc | rfl)
    refine' (have q23 : L4.HasM (L2.KOf KX) ?C8 "show" "Book.show" (L4.yf4 (K15.top 53) 4) ["self", "pot", "word"] ?C26 := ?p23; ?_)
    (case p23 => dsimp only [L2.KOf]; refine' L4.mkM K15.zel ?l ?c ?k; (case l => k_is); (case c => k_is); (case k => k_is))
    refine' (have q24 : PySem.W.findIn (L2.KOf KX) (.ref ?C8) "may_lie" = some (some (.ref ?C27)) := ?p24; ?_)
    (case p24 => dsimp only [L2.KOf]; first | k_is | k_exc | rfl)
    refine' (have q25 : L4.HasM (L2.KOf KX) ?C8 "may_lie" "Book.may_lie" (L4.yf4 (K15.top 53) 5) ["self", "pot", "side", "stand", "agreement"] ?C27 := ?p25; ?_)
    (case p25 => dsimp only [L2.KOf]; refine' L4.mkM K15.zbt ?l ?c ?k; (case l => k_is); (case c => k_is); (case k => k_is))
    refine' (have q26 : PySem.W.findIn (L2.KOf KX) (.ref ?C6) "__init__" = some (some (.ref ?C13)) := ?p26; ?_)
    (case p26 => dsimp only [L2.KOf]; first | k_is | k_exc | rfl)
    refine' (have q27 : L4.HasM (L2.KOf KX) ?C6 "__init__" "Laid.__init__" (L4.yf4 (K15.top 43) 0) ["self", "whole", "side", "stand", "day", "wait"] ?C13 := ?p27; ?_)
    (case p27 => dsimp only [L2.KOf]; refine' L4.mkM K15.za8 ?l ?c ?k; (case l => k_is); (case c => k_is); (case k => k_is))
    refine' (have q28 : PySem.W.findIn (L2.KOf KX) (.ref ?C8) "lay" = some (some (.ref ?C28)) := ?p28; ?_)
    (case p28 => dsimp only [L2.KOf]; first | k_is | k_exc | rfl)
    refine' (have q29 : L4.HasMD (L2.KOf KX) ?C8 "lay" "Book.lay" (L4.yf4 (K15.top 53) 6) ["self", "pot", "side", "stand", "agreement"] [.none] ?C28 := ?p29; ?_)
    (case p29 => dsimp only [L2.KOf]; refine' L4.mkMD K15.zf6 ?l ?c ?d; (case l => k_is); (case c => k_is); (case d => k_is))
    refine' (have q30 : PySem.W.findIn (L2.KOf KX) (.ref ?C5) "told" = some (some (.ref ?C10)) := ?p30; ?_)
    (case p30 => dsimp only [L2.KOf]; first | k_is | k_exc | rfl)
    refine' (have q31 : L4.HasM (L2.KOf KX) ?C5 "told" "Held.told" (L4.yf4 (K15.top 42) 0) ["self"] ?C10 := ?p31; ?_)
    (case p31 => dsimp only [L2.KOf]; refine' L4.mkM K15.zen ?l ?c ?k; (case l => k_is); (case c => k_is); (case k => k_is))
    refine' (have q32 : PySem.W.findIn (L2.KOf KX) (.ref ?C6) "told" = some (some (.ref ?C14)) := ?p32; ?_)
    (case p32 => dsimp only [L2.KOf]; first | k_is | k_exc | rfl)
    refine' (have q33 : L4.HasM (L2.KOf KX) ?C6 "told" "Laid.told" (L4.yf4 (K15.top 43) 1) ["self"] ?C14 := ?p33; ?_)
    (case p33 => dsimp only [L2.KOf]; refine' L4.mkM K15.zeo ?l ?c ?k; (case l => k_is); (case c => k_is); (case k => k_is))
    refine' (have q34 : PySem.W.findIn (L2.KOf KX) (.ref ?C7) "told" = some (some (.ref ?C19)) := ?p34; ?_)
    (case p34 => dsimp only [L2.KOf]; first | k_is | k_exc | rfl)
    refine' (have q35 : L4.HasM (L2.KOf KX) ?C7 "told" "Taken.told" (L4.yf4 (K15.top 44) 1) ["self"] ?C19 := ?p35; ?_)
    (case p35 => dsimp only [L2.KOf]; refine' L4.mkM K15.zdj ?l ?c ?k; (case l => k_is); (case c => k_is); (case k => k_is))
    refine' (have q36 : PySem.W.findIn (L2.KOf KX) (.ref ?C8) "told" = some (some (.ref ?C30)) := ?p36; ?_)
    (case p36 => dsimp only [L2.KOf]; first | k_is | k_exc | rfl)
    refine' (have q37 : L4.HasM (L2.KOf KX) ?C8 "told" "Book.told" (L4.yf4 (K15.top 53) 8) ["self", "pot"] ?C30 := ?p37; ?_)
    (case p37 => dsimp only [L2.KOf]; refine' L4.mkM K15.zem ?l ?c ?k; (case l => k_is); (case c => k_is); (case k => k_is))
    refine' (have q38 : PySem.W.findIn (L2.KOf KX) (.ref ?C5) "may_strike" = some (some (.ref ?C12)) := ?p38; ?_)
    (case p38 => dsimp only [L2.KOf]; first | k_is | k_exc | rfl)
    refine' (have q39 : L4.HasM (L2.KOf KX) ?C5 "may_strike" "Held.may_strike" (L4.yf4 (K15.top 42) 2) ["self", "pot", "side", "day", "thing"] ?C12 := ?p39; ?_)
    (case p39 => dsimp only [L2.KOf]; refine' L4.mkM K15.zag ?l ?c ?k; (case l => k_is); (case c => k_is); (case k => k_is))
    refine' (have q40 : PySem.W.findIn (L2.KOf KX) (.ref ?C6) "waits" = some (some (.ref ?C15)) := ?p40; ?_)
    (case p40 => dsimp only [L2.KOf]; first | k_is | k_exc | rfl)
    refine' (have q41 : L4.HasM (L2.KOf KX) ?C6 "waits" "Laid.waits" (L4.yf4 (K15.top 43) 2) ["self", "day"] ?C15 := ?p41; ?_)
    (case p41 => dsimp only [L2.KOf]; refine' L4.mkM K15.zdi ?l ?c ?k; (case l => k_is); (case c => k_is); (case k => k_is))
    refine' (have q42 : PySem.W.findIn (L2.KOf KX) (.ref ?C6) "may_strike" = some (some (.ref ?C17)) := ?p42; ?_)
    (case p42 => dsimp only [L2.KOf]; first | k_is | k_exc | rfl)
    refine' (have q43 : L4.HasM (L2.KOf KX) ?C6 "may_strike" "Laid.may_strike" (L4.yf4 (K15.top 43) 4) ["self", "pot", "side", "day", "thing"] ?C17 := ?p43; ?_)
    (case p43 => dsimp only [L2.KOf]; refine' L4.mkM K15.zah ?l ?c ?k; (case l => k_is); (case c => k_is); (case k => k_is))
    refine' (have q44 : PySem.W.findIn (L2.KOf KX) (.ref ?C7) "may_strike" = some (some (.ref ?C21)) := ?p44; ?_)
    (case p44 => dsimp only [L2.KOf]; first | k_is | k_exc | rfl)
    refine' (have q45 : L4.HasM (L2.KOf KX) ?C7 "may_strike" "Taken.may_strike" (L4.yf4 (K15.top 44) 3) ["self", "pot", "side", "day", "thing"] ?C21 := ?p45; ?_)
    (case p45 => dsimp only [L2.KOf]; refine' L4.mkM K15.zaa ?l ?c ?k; (case l => k_is); (case c => k_is); (case k => k_is))
    refine' (have q46 : PySem.W.findIn (L2.KOf KX) (.ref ?C7) "__init__" = some (some (.ref ?C18)) := ?p46; ?_)
    (case p46 => dsimp only [L2.KOf]; first | k_is | k_exc | rfl)
    refine' (have q47 : L4.HasM (L2.KOf KX) ?C7 "__init__" "Taken.__init__" (L4.yf4 (K15.top 44) 0) ["self", "whole", "side"] ?C18 := ?p47; ?_)
    (case p47 => dsimp only [L2.KOf]; refine' L4.mkM K15.zat ?l ?c ?k; (case l => k_is); (case c => k_is); (case k => k_is))
    refine' (have q48 : PySem.W.findIn (L2.KOf KX) (.ref ?C8) "strike" = some (some (.ref ?C29)) := ?p48; ?_)
    (case p48 => dsimp only [L2.KOf]; first | k_is | k_exc | rfl)
    refine' (have q49 : L4.HasM (L2.KOf KX) ?C8 "strike" "Book.strike" (L4.yf4 (K15.top 53) 7) ["self", "pot", "side", "thing"] ?C29 := ?p49; ?_)
    (case p49 => dsimp only [L2.KOf]; refine' L4.mkM K15.zcm ?l ?c ?k; (case l => k_is); (case c => k_is); (case k => k_is))
    refine' (have q50 : PySem.W.findIn (L2.KOf KX) (.ref ?C8) "today" = some (some (.ref ?C24)) := ?p50; ?_)
    (case p50 => dsimp only [L2.KOf]; first | k_is | k_exc | rfl)
    refine' (have q51 : L4.HasM (L2.KOf KX) ?C8 "today" "Book.today" (L4.yf4 (K15.top 53) 2) ["self"] ?C24 := ?p51; ?_)
    (case p51 => dsimp only [L2.KOf]; refine' L4.mkM K15.zdf ?l ?c ?k; (case l => k_is); (case c => k_is); (case k => k_is))
    refine' (have q52 : PySem.W.findIn (L2.KOf KX) (.ref ?C8) "shown_for" = some (some (.ref ?C31)) := ?p52; ?_)
    (case p52 => dsimp only [L2.KOf]; first | k_is | k_exc | rfl)
    refine' (have q53 : L4.HasM (L2.KOf KX) ?C8 "shown_for" "Book.shown_for" (L4.yf4 (K15.top 53) 9) ["self", "pot"] ?C31 := ?p53; ?_)
    (case p53 => dsimp only [L2.KOf]; refine' L4.mkM K15.zar ?l ?c ?k; (case l => k_is); (case c => k_is); (case k => k_is))
    refine' (have q54 : PySem.W.findIn (L2.KOf KX) (.ref ?C5) "comes" = some (some (.ref ?C11)) := ?p54; ?_)
    (case p54 => dsimp only [L2.KOf]; first | k_is | k_exc | rfl)
    refine' (have q55 : L4.HasM (L2.KOf KX) ?C5 "comes" "Held.comes" (L4.yf4 (K15.top 42) 1) ["self", "day", "shown"] ?C11 := ?p55; ?_)
    (case p55 => dsimp only [L2.KOf]; refine' L4.mkM K15.zdg ?l ?c ?k; (case l => k_is); (case c => k_is); (case k => k_is))
    refine' (have q56 : PySem.W.findIn (L2.KOf KX) (.ref ?C6) "comes" = some (some (.ref ?C16)) := ?p56; ?_)
    (case p56 => dsimp only [L2.KOf]; first | k_is | k_exc | rfl)
    refine' (have q57 : L4.HasM (L2.KOf KX) ?C6 "comes" "Laid.comes" (L4.yf4 (K15.top 43) 3) ["self", "day", "shown"] ?C16 := ?p57; ?_)
    (case p57 => dsimp only [L2.KOf]; refine' L4.mkM K15.zdh ?l ?c ?k; (case l => k_is); (case c => k_is); (case k => k_is))
    refine' (have q58 : PySem.W.findIn (L2.KOf KX) (.ref ?C7) "comes" = some (some (.ref ?C20)) := ?p58; ?_)
    (case p58 => dsimp only [L2.KOf]; first | k_is | k_exc | rfl)
    refine' (have q59 : L4.HasM (L2.KOf KX) ?C7 "comes" "Taken.comes" (L4.yf4 (K15.top 44) 2) ["self", "day", "shown"] ?C20 := ?p59; ?_)
    (case p59 => dsimp only [L2.KOf]; refine' L4.mkM K15.zcn ?l ?c ?k; (case l => k_is); (case c => k_is); (case k => k_is))
    refine' (have q60 : PySem.W.findIn (L2.KOf KX) (.ref ?C8) "due_of" = some (some (.ref ?C32)) := ?p60; ?_)
    (case p60 => dsimp only [L2.KOf]; first | k_is | k_exc | rfl)
    refine' (have q61 : L4.HasM (L2.KOf KX) ?C8 "due_of" "Book.due_of" (L4.yf4 (K15.top 53) 10) ["self", "pot"] ?C32 := ?p61; ?_)
    (case p61 => dsimp only [L2.KOf]; refine' L4.mkM K15.zcl ?l ?c ?k; (case l => k_is); (case c => k_is); (case k => k_is))
    refine' (have q62 : PySem.W.findIn (L2.KOf KX) (.ref ?C8) "coin_of" = some (some (.ref ?C33)) := ?p62; ?_)
    (case p62 => dsimp only [L2.KOf]; first | k_is | k_exc | rfl)
    refine' (have q63 : L4.HasM (L2.KOf KX) ?C8 "coin_of" "Book.coin_of" (L4.yf4 (K15.top 53) 11) ["self", "hand"] ?C33 := ?p63; ?_)
    (case p63 => dsimp only [L2.KOf]; refine' L4.mkM K15.zbr ?l ?c ?k; (case l => k_is); (case c => k_is); (case k => k_is))
    refine' (have q64 : PySem.W.findIn (L2.KOf KX) (.ref ?C8) "is_over" = some (some (.ref ?C34)) := ?p64; ?_)
    (case p64 => dsimp only [L2.KOf]; first | k_is | k_exc | rfl)
    refine' (have q65 : L4.HasM (L2.KOf KX) ?C8 "is_over" "Book.is_over" (L4.yf4 (K15.top 53) 12) ["self"] ?C34 := ?p65; ?_)
    (case p65 => dsimp only [L2.KOf]; refine' L4.mkM K15.zbs ?l ?c ?k; (case l => k_is); (case c => k_is); (case k => k_is))
    refine' (have q66 : L2.Cls (L2.KOf KX) ?C8 := ?p66; ?_)
    (case p66 => dsimp only [L2.KOf]; refine' ⟨?a, ?b, ?c, ?d⟩; (case a => k_is); (case b => k_is); (case c => k_is); (case d => k_is))
    refine' (have q67 : L2.zyf (L2.KOf KX) ?C8 "pots" := ?p67; ?_)
    (case p67 => dsimp only [L2.KOf]; first | k_is | k_exc | rfl)
    refine' (have q68 : L2.zyf (L2.KOf KX) ?C8 "day" := ?p68; ?_)
    (case p68 => dsimp only [L2.KOf]; first | k_is | k_exc | rfl)
    refine' (have q69 : L2.Cls (L2.KOf KX) ?C6 := ?p69; ?_)
    (case p69 => dsimp only [L2.KOf]; refine' ⟨?a, ?b, ?c, ?d⟩; (case a => k_is); (case b => k_is); (case c => k_is); (case d => k_is))
    refine' (have q70 : L2.zyf (L2.KOf KX) ?C6 "day" := ?p70; ?_)
    (case p70 => dsimp only [L2.KOf]; first | k_is | k_exc | rfl)
    refine' (have q71 : L2.Cls (L2.KOf KX) ?C7 := ?p71; ?_)
    (case p71 => dsimp only [L2.KOf]; refine' ⟨?a, ?b, ?c, ?d⟩; (case a => k_is); (case b => k_is); (case c => k_is); (case d => k_is))
    refine' (have q72 : L2.zyf (L2.KOf KX) ?C7 "whole" := ?p72; ?_)
    (case p72 => dsimp only [L2.KOf]; first | k_is | k_exc | rfl)
    refine' (have q73 : L2.zyf (L2.KOf KX) ?C6 "whole" := ?p73; ?_)
    (case p73 => dsimp only [L2.KOf]; first | k_is | k_exc | rfl)
    refine' (have q74 : L2.Cls (L2.KOf KX) ?C5 := ?p74; ?_)
    (case p74 => dsimp only [L2.KOf]; refine' ⟨?a, ?b, ?c, ?d⟩; (case a => k_is); (case b => k_is); (case c => k_is); (case d => k_is))
    refine' (have q75 : L2.zyf (L2.KOf KX) ?C5 "whole" := ?p75; ?_)
    (case p75 => dsimp only [L2.KOf]; first | k_is | k_exc | rfl)
    refine' (have q76 : L2.Cls (L2.KOf KX) ?C4 := ?p76; ?_)
    (case p76 => dsimp only [L2.KOf]; refine' ⟨?a, ?b, ?c, ?d⟩; (case a => k_is); (case b => k_is); (case c => k_is); (case d => k_is))
    refine' (have q77 : L2.zyf (L2.KOf KX) ?C4 "whole" := ?p77; ?_)
    (case p77 => dsimp only [L2.KOf]; first | k_is | k_exc | rfl)
    refine' (have q78 : L2.Mk (L2.KOf KX) ?C5 ?C9 := ?p78; ?_)
    (case p78 => dsimp only [L2.KOf]; refine' ⟨?a, ?b, ?c, ?d⟩; (case a => k_is); (case b => k_is); (case c => k_is); (case d => k_is))
    refine' (have q79 : L2.zyf (L2.KOf KX) ?C8 "claims" := ?p79; ?_)
    (case p79 => dsimp only [L2.KOf]; first | k_is | k_exc | rfl)
    refine' (have q80 : L2.zyf (L2.KOf KX) ?C8 "shown" := ?p80; ?_)
    (case p80 => dsimp only [L2.KOf]; first | k_is | k_exc | rfl)
    refine' (have q81 : L2.Mk (L2.KOf KX) ?C8 ?C22 := ?p81; ?_)
    (case p81 => dsimp only [L2.KOf]; refine' ⟨?a, ?b, ?c, ?d⟩; (case a => k_is); (case b => k_is); (case c => k_is); (case d => k_is))
    refine' (have q82 : L2.Meth (L2.KOf KX) ?C8 "next_day" ?C25 := ?p82; ?_)
    (case p82 => dsimp only [L2.KOf]; refine' ⟨?a, ?b, ?c⟩; (case a => k_is); (case b => k_is); (case c => k_is))
    refine' (have q83 : L2.Meth (L2.KOf KX) ?C8 "check_pot" ?C23 := ?p83; ?_)
    (case p83 => dsimp only [L2.KOf]; refine' ⟨?a, ?b, ?c⟩; (case a => k_is); (case b => k_is); (case c => k_is))
    refine' (have q84 : L2.Meth (L2.KOf KX) ?C8 "show" ?C26 := ?p84; ?_)
    (case p84 => dsimp only [L2.KOf]; refine' ⟨?a, ?b, ?c⟩; (case a => k_is); (case b => k_is); (case c => k_is))
    refine' (have q85 : L4.InK (L2.KOf KX) ?C8 := ?p85; ?_)
    (case p85 => dsimp only [L2.KOf]; refine' ⟨⟨?a, ?b, ?c, ?d⟩, ?e, ?f, ?g, ?h⟩; (case a => k_is); (case b => k_is); (case c => k_is); (case d => k_is); (case e => k_is); (case f => k_is); (case g => k_is); (case h => k_is))
    refine' (have q86 : PySem.W.kitOne (L2.KOf KX) (.ref ?C8) (.ref ?C5) = some false := ?p86; ?_)
    (case p86 => dsimp only [L2.KOf]; first | k_is | k_exc | rfl)
    refine' (have q87 : L4.InK (L2.KOf KX) ?C7 := ?p87; ?_)
    (case p87 => dsimp only [L2.KOf]; refine' ⟨⟨?a, ?b, ?c, ?d⟩, ?e, ?f, ?g, ?h⟩; (case a => k_is); (case b => k_is); (case c => k_is); (case d => k_is); (case e => k_is); (case f => k_is); (case g => k_is); (case h => k_is))
    refine' (have q88 : PySem.W.kitOne (L2.KOf KX) (.ref ?C7) (.ref ?C5) = some false := ?p88; ?_)
    (case p88 => dsimp only [L2.KOf]; first | k_is | k_exc | rfl)
    refine' (have q89 : L4.InK (L2.KOf KX) ?C6 := ?p89; ?_)
    (case p89 => dsimp only [L2.KOf]; refine' ⟨⟨?a, ?b, ?c, ?d⟩, ?e, ?f, ?g, ?h⟩; (case a => k_is); (case b => k_is); (case c => k_is); (case d => k_is); (case e => k_is); (case f => k_is); (case g => k_is); (case h => k_is))
    refine' (have q90 : PySem.W.kitOne (L2.KOf KX) (.ref ?C6) (.ref ?C5) = some false := ?p90; ?_)
    (case p90 => dsimp only [L2.KOf]; first | k_is | k_exc | rfl)
    refine' (have q91 : L4.InK (L2.KOf KX) ?C5 := ?p91; ?_)
    (case p91 => dsimp only [L2.KOf]; refine' ⟨⟨?a, ?b, ?c, ?d⟩, ?e, ?f, ?g, ?h⟩; (case a => k_is); (case b => k_is); (case c => k_is); (case d => k_is); (case e => k_is); (case f => k_is); (case g => k_is); (case h => k_is))
    refine' (have q92 : PySem.W.kitOne (L2.KOf KX) (.ref ?C5) (.ref ?C5) = some true := ?p92; ?_)
    (case p92 => dsimp only [L2.KOf]; first | k_is | k_exc | rfl)
    refine' (have q93 : L2.Meth (L2.KOf KX) ?C8 "may_lie" ?C27 := ?p93; ?_)
    (case p93 => dsimp only [L2.KOf]; refine' ⟨?a, ?b, ?c⟩; (case a => k_is); (case b => k_is); (case c => k_is))
    refine' (have q94 : PySem.W.specialIn (L2.KOf KX) (.ref ?C4) (Str.ofString "__getattribute__") = some (some (.builtin "type.__getattribute__")) := ?p94; ?_)
    (case p94 => dsimp only [L2.KOf]; first | k_is | k_exc | rfl)
    refine' (have q95 : PySem.W.readsIn (L2.KOf KX) ?C4 (.type "type") = true := ?p95; ?_)
    (case p95 => dsimp only [L2.KOf]; first | k_is | k_exc | rfl)
    refine' (have q96 : PySem.W.findCls (L2.KOf KX) (.ref ?C4) (.type "type") "__init__" = some (.val (.ref ?C9)) := ?p96; ?_)
    (case p96 => dsimp only [L2.KOf]; first | k_is | k_exc | rfl)
    refine' (have q97 : PySem.W.keepIn (L2.KOf KX) (.ref ?C9) = true := ?p97; ?_)
    (case p97 => dsimp only [L2.KOf]; first | k_is | k_exc | rfl)
    refine' (have q98 : L2.zyf (L2.KOf KX) ?C7 "side" := ?p98; ?_)
    (case p98 => dsimp only [L2.KOf]; first | k_is | k_exc | rfl)
    refine' (have q99 : L2.zyf (L2.KOf KX) ?C6 "side" := ?p99; ?_)
    (case p99 => dsimp only [L2.KOf]; first | k_is | k_exc | rfl)
    refine' (have q100 : L2.zyf (L2.KOf KX) ?C6 "stand" := ?p100; ?_)
    (case p100 => dsimp only [L2.KOf]; first | k_is | k_exc | rfl)
    refine' (have q101 : L2.zyf (L2.KOf KX) ?C6 "wait" := ?p101; ?_)
    (case p101 => dsimp only [L2.KOf]; first | k_is | k_exc | rfl)
    refine' (have q102 : L2.Mk (L2.KOf KX) ?C6 ?C13 := ?p102; ?_)
    (case p102 => dsimp only [L2.KOf]; refine' ⟨?a, ?b, ?c, ?d⟩; (case a => k_is); (case b => k_is); (case c => k_is); (case d => k_is))
    refine' (have q103 : L2.Meth (L2.KOf KX) ?C8 "lay" ?C28 := ?p103; ?_)
    (case p103 => dsimp only [L2.KOf]; refine' ⟨?a, ?b, ?c⟩; (case a => k_is); (case b => k_is); (case c => k_is))
    refine' (have q104 : L2.Meth (L2.KOf KX) ?C7 "told" ?C19 := ?p104; ?_)
    (case p104 => dsimp only [L2.KOf]; refine' ⟨?a, ?b, ?c⟩; (case a => k_is); (case b => k_is); (case c => k_is))
    refine' (have q105 : L2.Meth (L2.KOf KX) ?C6 "told" ?C14 := ?p105; ?_)
    (case p105 => dsimp only [L2.KOf]; refine' ⟨?a, ?b, ?c⟩; (case a => k_is); (case b => k_is); (case c => k_is))
    refine' (have q106 : L2.Meth (L2.KOf KX) ?C5 "told" ?C10 := ?p106; ?_)
    (case p106 => dsimp only [L2.KOf]; refine' ⟨?a, ?b, ?c⟩; (case a => k_is); (case b => k_is); (case c => k_is))
    refine' (have q107 : L2.Meth (L2.KOf KX) ?C8 "told" ?C30 := ?p107; ?_)
    (case p107 => dsimp only [L2.KOf]; refine' ⟨?a, ?b, ?c⟩; (case a => k_is); (case b => k_is); (case c => k_is))
    refine' (have q108 : L2.Meth (L2.KOf KX) ?C6 "waits" ?C15 := ?p108; ?_)
    (case p108 => dsimp only [L2.KOf]; refine' ⟨?a, ?b, ?c⟩; (case a => k_is); (case b => k_is); (case c => k_is))
    refine' (have q109 : L2.Meth (L2.KOf KX) ?C7 "may_strike" ?C21 := ?p109; ?_)
    (case p109 => dsimp only [L2.KOf]; refine' ⟨?a, ?b, ?c⟩; (case a => k_is); (case b => k_is); (case c => k_is))
    refine' (have q110 : L2.Meth (L2.KOf KX) ?C6 "may_strike" ?C17 := ?p110; ?_)
    (case p110 => dsimp only [L2.KOf]; refine' ⟨?a, ?b, ?c⟩; (case a => k_is); (case b => k_is); (case c => k_is))
    refine' (have q111 : L2.Meth (L2.KOf KX) ?C5 "may_strike" ?C12 := ?p111; ?_)
    (case p111 => dsimp only [L2.KOf]; refine' ⟨?a, ?b, ?c⟩; (case a => k_is); (case b => k_is); (case c => k_is))
    refine' (have q112 : L2.Mk (L2.KOf KX) ?C7 ?C18 := ?p112; ?_)
    (case p112 => dsimp only [L2.KOf]; refine' ⟨?a, ?b, ?c, ?d⟩; (case a => k_is); (case b => k_is); (case c => k_is); (case d => k_is))
    refine' (have q113 : L2.Meth (L2.KOf KX) ?C8 "strike" ?C29 := ?p113; ?_)
    (case p113 => dsimp only [L2.KOf]; refine' ⟨?a, ?b, ?c⟩; (case a => k_is); (case b => k_is); (case c => k_is))
    refine' (have q114 : L2.Meth (L2.KOf KX) ?C8 "today" ?C24 := ?p114; ?_)
    (case p114 => dsimp only [L2.KOf]; refine' ⟨?a, ?b, ?c⟩; (case a => k_is); (case b => k_is); (case c => k_is))
    refine' (have q115 : L2.Meth (L2.KOf KX) ?C8 "shown_for" ?C31 := ?p115; ?_)
    (case p115 => dsimp only [L2.KOf]; refine' ⟨?a, ?b, ?c⟩; (case a => k_is); (case b => k_is); (case c => k_is))
    refine' (have q116 : L2.Meth (L2.KOf KX) ?C7 "comes" ?C20 := ?p116; ?_)
    (case p116 => dsimp only [L2.KOf]; refine' ⟨?a, ?b, ?c⟩; (case a => k_is); (case b => k_is); (case c => k_is))
    refine' (have q117 : L2.Meth (L2.KOf KX) ?C6 "comes" ?C16 := ?p117; ?_)
    (case p117 => dsimp only [L2.KOf]; refine' ⟨?a, ?b, ?c⟩; (case a => k_is); (case b => k_is); (case c => k_is))
    refine' (have q118 : L2.Meth (L2.KOf KX) ?C5 "comes" ?C11 := ?p118; ?_)
    (case p118 => dsimp only [L2.KOf]; refine' ⟨?a, ?b, ?c⟩; (case a => k_is); (case b => k_is); (case c => k_is))
    refine' (have q119 : L2.Meth (L2.KOf KX) ?C8 "due_of" ?C32 := ?p119; ?_)
    (case p119 => dsimp only [L2.KOf]; refine' ⟨?a, ?b, ?c⟩; (case a => k_is); (case b => k_is); (case c => k_is))
    refine' (have q120 : L2.Meth (L2.KOf KX) ?C8 "coin_of" ?C33 := ?p120; ?_)
    (case p120 => dsimp only [L2.KOf]; refine' ⟨?a, ?b, ?c⟩; (case a => k_is); (case b => k_is); (case c => k_is))
    refine' (have q121 : L2.Meth (L2.KOf KX) ?C8 "is_over" ?C34 := ?p121; ?_)
    (case p121 => dsimp only [L2.KOf]; refine' ⟨?a, ?b, ?c⟩; (case a => k_is); (case b => k_is); (case c => k_is))
    refine ⟨fun n => ([?C0, ?C1, ?C2, 0, ?C4, ?C5, ?C6, ?C7, ?C8, ?C9, ?C10, ?C11, ?C12, ?C13, ?C14, ?C15, ?C16, ?C17, ?C18, ?C19, ?C20, ?C21, ?C22, ?C23, ?C24, ?C25, ?C26, ?C27, ?C28, ?C29, ?C30, ?C31, ?C32, ?C33, ?C34] : List Addr).getD n 0, ?_⟩
    exact K15.yb0 ⟨h__law_cell_at, h__law_mixed, h__law_pots, h_is_whole, h_is_between, h_is_hand, h_makes_a_pot, h_checked_pots, q15, h_whole_of, q17, h__law_small_stand, q19, q21, h_is_word, q23, h_is_side, h_check_side, h_deals, h_is_day, h_is_amount, h_is_tie, h_are_ties, h_are_shares, h_is_number, h_is_stand, h_is_stand_of, h_other_side, h_is_pot, h_is_of_a_side, h_is_thing, h_is_agreed, h_stand, h_first, q25, q27, q29, q31, q33, q35, q37, q39, q41, q43, q45, q47, q49, h__law_try, q51, q53, h__law_due, q55, h_shown_in_time, h_side_due, h_with_more, q57, q59, q61, q63, q65, h__law_refused, h_law, n_all, n_bool, n_dict, n_enumerate, n_int, n_isinstance, n_len, n_list, n_min, n_range, n_set, n_str, n_sum, n_tuple, c_MOST_AMOUNT, c_MOST_COIN, c_MOST_DAY, c_MOST_HAND, c_MOST_NUMBER, c_MOST_POT, c_MOST_SHARE, c_MOST_TIES, c_MOST_WAIT, c_MOST_WORD, PySem.W.mg_of KX G q0, q1, PySem.W.mg_of KX G q2, q3, PySem.W.mg_of KX G q4, q5, q6, q7, q8, q66, q67, q68, q69, q70, q71, q72, q73, q74, q75, q76, q77, PySem.W.mg_of KX G q10, q78, q79, q80, PySem.W.mg_of KX G q13, q81, q82, q83, q84, q85, q86, q87, q88, q89, q90, q91, q92, q93, PySem.W.mg_of KX G q9, q94, q95, q96, q97, q98, q99, q100, q101, PySem.W.mg_of KX G q11, q102, q103, q104, q105, q106, q107, q108, q109, q110, q111, PySem.W.mg_of KX G q12, q112, q113, q114, q115, q116, q117, q118, q119, q120, q121⟩
