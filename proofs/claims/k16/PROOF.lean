import PyProof.Rows.All
import Wide.All
import OpenK.AllK
import Wide.FinOn
import Lean
import PyProof.EqAt
import PyProof.EqKinds
import PyProof.TupleCall
import PyProof.NeKinds
import PyProof.NsDelKeeps
import KE.KTryMore
import PyProof.WalksMore
import PyProof.Rows.SetFrom
import KE.KEqDict
import PySem.Challenge.RW_sidebook_k16_whole_coin_is_kept
set_option Elab.async false
set_option linter.all false
set_option maxRecDepth 100000
def PySem.W.Fast.tw11738666292403077217 : Nat := 0
def PySem.W.Fast.tw6871339870176158754 : Nat := 0
def PySem.W.Fast.tw8876263266766787448 : Nat := 0
def PySem.W.Fast.tw6671299280736913604 : Nat := 0
def PySem.W.Fast.tw8918554063845424662 : Nat := 0
def PySem.W.Fast.tw13076083119800495440 : Nat := 0
def PySem.W.Fast.tw12340204648224628852 : Nat := 0
def PySem.W.Fast.tw12512754854804953445 : Nat := 0
def PySem.W.Fast.tw2485930624836560571 : Nat := 0
def PySem.W.Fast.tw17493856568926895333 : Nat := 0
def PySem.W.Fast.tw10139010200657491437 : Nat := 0
def PySem.W.Fast.tw17053735805269784482 : Nat := 0
def PySem.W.Fast.tw17522547981826311828 : Nat := 0
def PySem.W.Fast.tw9389610798533648913 : Nat := 0
def PySem.W.Fast.tw1552014690517122504 : Nat := 0
def PySem.W.Fast.tw9148445495301960095 : Nat := 0
def PySem.W.Fast.tw17030458887271425593 : Nat := 0
def PySem.W.Fast.tw10048678972636390629 : Nat := 0
def PySem.W.Fast.tw17361716752944875719 : Nat := 0
def PySem.W.Fast.tw16979163336774437286 : Nat := 0
def PySem.W.Fast.tw9950071885562727812 : Nat := 0
def PySem.W.Fast.tw16584407385679291137 : Nat := 0
def PySem.W.Fast.tw14734055125168422142 : Nat := 0
def PySem.W.Fast.tw10404745710090168449 : Nat := 0
def PySem.W.Fast.tw10523874658284169770 : Nat := 0
def PySem.W.Fast.tw15847611593229944840 : Nat := 0
def PySem.W.Fast.tw9741917134303425559 : Nat := 0
def PySem.W.Fast.tw11330228117326492795 : Nat := 0
def PySem.W.Fast.tw15998195302099907485 : Nat := 0
def PySem.W.Fast.tw4938413588106138746 : Nat := 0
namespace L2
open PySem PySem.Spec PyProof.Rows
abbrev Key := Sum Int Str
def keyIs : Key -> Value -> Bool
  | .inl k, v => Value.isInt k v
  | .inr x, v => Value.isStrOf x v
def keyH (w : World) : Key -> Int
  | .inl k => hashInt k
  | .inr x => hashStr w x
theorem zbx : ∀ {k : Key} {v : Value}, keyIs k v = true -> (∃ i t, k = Sum.inl i /\ v = Value.int i t) \/ (∃ x t, k = Sum.inr x /\ v = Value.str x t)
  | .inl i, v, h => by
    obtain ⟨t, e⟩ := Value.isInt_shape (k := i) (v := v) h
    exact .inl ⟨i, t, rfl, e⟩
  | .inr x, v, h => by
    obtain ⟨t, e⟩ := Value.isStrOf_shape (x := x) (v := v) h
    exact .inr ⟨x, t, rfl, e⟩
theorem keyIs_int (i : Int) (t : Tok) : keyIs (.inl i) (.int i t) = true := by simp [keyIs, Value.isInt]
theorem keyIs_str (x : Str) (t : Tok) : keyIs (.inr x) (.str x t) = true := by simp [keyIs, Value.isStrOf]
theorem key_ll (a b : Int) : decide ((Sum.inl a : Key) = Sum.inl b) = (a == b) := by
  by_cases e : a = b
  · subst e; simp
  · have h : ¬ (Sum.inl a : Key) = Sum.inl b := fun q => e (Sum.inl.inj q)
    rw [decide_eq_false h]
    exact (beq_eq_false_iff_ne.mpr e).symm
theorem key_rr (a b : Str) : decide ((Sum.inr a : Key) = Sum.inr b) = decide (a = b) := by
  by_cases e : a = b
  · subst e; simp
  · have h : ¬ (Sum.inr a : Key) = Sum.inr b := fun q => e (Sum.inr.inj q)
    rw [decide_eq_false h, decide_eq_false e]
theorem key_lr (a : Int) (b : Str) : decide ((Sum.inl a : Key) = Sum.inr b) = false := decide_eq_false (fun q => nomatch q)
theorem key_rl (a : Str) (b : Int) : decide ((Sum.inr a : Key) = Sum.inl b) = false := decide_eq_false (fun q => nomatch q)
def mixKind (prog : Program) (w : World) : PySem.KeyKind prog w Key where
  is := keyIs
  hash := keyH w
  inj := fun v a b ha hb => by
    rcases zbx ha with ⟨i, t, rfl, rfl⟩ | ⟨x, t, rfl, rfl⟩
    · rcases zbx hb with ⟨j, u, rfl, e⟩ | ⟨y, u, rfl, e⟩
      · injection e with e1 _; rw [e1]
      · exact nomatch e
    · rcases zbx hb with ⟨j, u, rfl, e⟩ | ⟨y, u, rfl, e⟩
      · exact nomatch e
      · injection e with e1 _; rw [e1]
  byValue := fun k v h => by
    rcases zbx h with ⟨i, t, rfl, rfl⟩ | ⟨x, t, rfl, rfl⟩ <;> rfl
  pyHash := fun hv h => by
    rcases zbx hv with ⟨i, t, rfl, rfl⟩ | ⟨x, t, rfl, rfl⟩
    · exact wpAny_pyHash_int h
    · exact wpAny_pyHash_str h
  eqBool := fun hu hv h => by
    rcases zbx hu with ⟨i, t, rfl, rfl⟩ | ⟨x, t, rfl, rfl⟩
    · rcases zbx hv with ⟨j, u, rfl, rfl⟩ | ⟨y, u, rfl, rfl⟩
      · rw [key_ll] at h; exact wpAny_eqBool_int h
      · rw [key_lr] at h; exact SeqAt.EqAt.int_str i t y u _ _ _ _ h
    · rcases zbx hv with ⟨j, u, rfl, rfl⟩ | ⟨y, u, rfl, rfl⟩
      · rw [key_rl] at h; exact SeqAt.EqAt.str_int x t j u _ _ _ _ h
      · rw [key_rr] at h; exact wpAny_eqBool_str h
  «strs» := fun k x t v h => by
    rcases zbx h with ⟨i, u, rfl, e⟩ | ⟨y, u, rfl, e⟩
    · exact nomatch e
    · injection e with e1 _
      subst e1
      cases v <;> rfl
theorem mixKind_int (prog : Program) (w : World) (i : Int) (t : Tok) : (mixKind prog w).is (.inl i) (.int i t) = true := keyIs_int i t
theorem mixKind_str (prog : Program) (w : World) (x : Str) (t : Tok) : (mixKind prog w).is (.inr x) (.str x t) = true := keyIs_str x t
end L2
namespace L2
open PySem PySem.Spec PyProof.Rows
inductive V where
  | non | bl (b : Bool) | int (i : Int) | str (x : Str) | byt (b : Array UInt8) | flt (b : UInt64) | ref (a : Addr) | ty (n : String)
  deriving DecidableEq
def zae : V -> Value -> Prop
  | .non, u => u = Value.none
  | .bl b, u => u = Value.bool b
  | .int i, u => ∃ t, u = Value.int i t
  | .str x, u => ∃ t, u = Value.str x t
  | .byt b, u => ∃ t, u = Value.bytes b t
  | .flt b, u => ∃ t, u = Value.float b t
  | .ref a, u => u = Value.ref a
  | .ty n, u => u = Value.type n
abbrev zag : List V -> List Value -> Prop := Paired zae
theorem zag.length {xs : List V} {us : List Value} (r : zag xs us) : xs.length = us.length := Paired.length r
theorem zag.get : ∀ {xs : List V} {us : List Value} {i : Nat} {x : V}, zag xs us -> xs[i]? = some x -> ∃ u, us[i]? = some u /\ zae x u
  | _, _, _, _, .nil, e => by simp at e
  | _, _, 0, _, .cons r _, e => by simp at e; subst e; exact ⟨_, rfl, r⟩
  | _, _, i + 1, x, .cons _ t, e => by
    obtain ⟨u, h1, h2⟩ := zag.get (i := i) (x := x) t (by simpa using e)
    exact ⟨u, by simpa using h1, h2⟩
theorem zag.set {x : V} {u : Value} (r : zae x u) : ∀ {xs : List V} {us : List Value} (i : Nat), zag xs us -> zag (xs.set i x) (us.set i u)
  | _, _, _, .nil => .nil
  | _, _, 0, .cons _ t => .cons r t
  | _, _, i + 1, .cons q t => .cons q (zag.set r i t)
theorem zag.append : ∀ {xs ys : List V} {us ws : List Value}, zag xs us -> zag ys ws -> zag (xs ++ ys) (us ++ ws)
  | _, _, _, _, .nil, s => s
  | _, _, _, _, .cons r t, s => .cons r (zag.append t s)
theorem zag.take : ∀ {xs : List V} {us : List Value} (n : Nat), zag xs us -> zag (xs.take n) (us.take n)
  | _, _, 0, _ => .nil
  | _, _, _ + 1, .nil => .nil
  | _, _, n + 1, .cons r t => .cons r (zag.take n t)
theorem zag.drop : ∀ {xs : List V} {us : List Value} (n : Nat), zag xs us -> zag (xs.drop n) (us.drop n)
  | _, _, 0, r => r
  | _, _, _ + 1, .nil => .nil
  | _, _, n + 1, .cons _ t => zag.drop n t
theorem zag.none_of : ∀ {xs : List V} {us : List Value} {i : Nat}, zag xs us -> xs[i]? = none -> us[i]? = none := fun {xs us i} r e => by
  have h1 := r.length
  have h2 : xs.length <= i := List.getElem?_eq_none_iff.mp e
  exact List.getElem?_eq_none_iff.mpr (by omega)
def RelO : Option V -> Option Value -> Prop
  | some v, some u => zae v u
  | none, none => True
  | _, _ => False
def KV {κ : Type} : List (κ × V) -> List (κ × Value) -> Prop := Paired fun (p : κ × V) (q : κ × Value) => p.1 = q.1 /\ zae p.2 q.2
def kV : Key -> V
  | .inl i => .int i
  | .inr x => .str x
inductive HO where
  | lst (xs : List V)
  | tup (xs : List V)
  | dK (kvs : List (Key × V)) | dT (kvs : List (List Key × V))
  | set (S : Int -> Bool) (n : Nat)
  | ins (C dx : Addr) (fs : List (Str × V))
  | own (x : Addr)
  | xd (fs : List (Str × V))
  | met (f x : Addr)
  | rng (lo hi : Int)
  | frz (o : Obj) (u : HO)
  | tbl (ps : Array Value)
  | ext (φ : Heap -> Prop)
abbrev Hp := Addr -> Option HO
def upd (H : Hp) (a : Addr) (o : HO) : Hp := fun b => if b = a then some o else H b
theorem upd_same {H : Hp} {a : Addr} {o : HO} : upd H a o a = some o := by unfold upd; rw [if_pos rfl]
theorem upd_ne {H : Hp} {a b : Addr} {o : HO} (h : b ≠ a) : upd H a o b = H b := by unfold upd; rw [if_neg h]
theorem ne_of {H : Hp} {a b : Addr} {o u : HO} (h : H a = some o) (h' : H b = some u) (d : o ≠ u) : a ≠ b := by
  intro e; subst e; rw [h] at h'; exact d (Option.some.inj h')
theorem zcc {H : Hp} {a b : Addr} {o : HO} (h : H a = some o) (h' : H b = none) : a ≠ b := by
  intro e; subst e; rw [h] at h'; cases h'
section
variable (P : Program) (w : World)
def zac (H : Hp) (h : Heap) (a : Addr) : HO -> Prop
  | .lst xs => xs.length <= sizeLine /\ ∃ (its : List Value) (n : Nat), zag xs its /\ h.get? a = some { cls := .type "list", data := .seq its.toArray n }
  | .tup xs => xs.length <= sizeLine /\ ∃ its : List Value, zag xs its /\ IsTup h a its.toArray
  | .dK kvs => kvs.length <= sizeLine /\ (a == sysModules) = false /\ ∃ vs, KV kvs vs /\ h.DictOf (mixKind P w) a vs
  | .dT kvs => kvs.length <= sizeLine /\ (a == sysModules) = false /\ ∃ xs : List (List Key × Addr × Value),
      Paired (fun (p : List Key × V) (q : List Key × Addr × Value) => p.1 = q.1 /\ H q.2.1 = some (.tup (p.1.map kV)) /\ zae p.2 q.2.2) kvs xs /\
      ∃ o es ep, h.get? a = some o /\ o.ExactDict /\ o.data = .dict es ep /\ es.toList = xs.map (entryOfKey (tupleKind (mixKind P w))) /\ (xs.map (·.1)).Nodup
  | .set S n => h.SetOf (intKind P w) a S n
  | .ins C dx fs => H dx = some (.own a) /\ fs.length <= 1000 /\ dx ≠ a /\ h.get? a = some (PySem.W.instObj C dx) /\
      ∃ mA, h.Ns1 dx mA /\ (∀ f, RelO (fs.lookup f) (mA f)) /\ PySem.Within mA (fs.map (·.1))
  | .own _ => ∃ o, h.get? a = some o
  | .xd fs => ∃ mA, h.Ns1 a mA /\ ∀ f, RelO (fs.lookup f) (mA f)
  | .rng lo hi => ∃ t u v, h.get? a = some { cls := .type "range", data := .fields #[.int lo t, .int hi u, .int 1 v] }
  | .frz o u => h.get? a = some o /\ zac H h a u
  | .tbl ps => h.get? a = some { cls := .none, data := .fields ps }
  | .met f x => h.get? a = some (PySem.W.methodObj (.ref f) (.ref x))
  | .ext φ => φ h /\ (∃ o, h.get? a = some o) /\ ∀ h1 h2 : Heap, φ h1 -> (∀ o, h1.get? a = some o -> h2.get? a = some o) -> φ h2
def HOk (H : Hp) (h : Heap) : Prop := ∀ a o, H a = some o -> zac P w H h a o
end
section
variable {P : Program} {w : World} {H H' : Hp} {h h' : Heap} {a : Addr} {o : HO}
theorem zac.lt (x : zac P w H h a o) : a < h.objs.size := by
  cases o with
  | lst xs => obtain ⟨_, _, _, _, e⟩ := x; exact Heap.lt_size e
  | tup xs => obtain ⟨_, _, _, p⟩ := x; exact p.lt
  | dK kvs => obtain ⟨_, _, _, _, o, _, _, e, _⟩ := x; exact Heap.lt_size e
  | dT kvs => obtain ⟨_, _, _, _, o, _, _, e, _⟩ := x; exact Heap.lt_size e
  | set S n => obtain ⟨o, _, _, _, e, _⟩ := x; exact Heap.lt_size e
  | ins C dx fs => obtain ⟨_, _, _, e, _⟩ := x; exact Heap.lt_size e
  | own y => obtain ⟨_, e⟩ := x; exact Heap.lt_size e
  | xd fs => obtain ⟨_, ⟨_, _, _, e, _⟩, _⟩ := x; exact Heap.lt_size e
  | rng lo hi => obtain ⟨_, _, _, e⟩ := x; exact Heap.lt_size e
  | frz ob u => obtain ⟨e, _⟩ := x; exact Heap.lt_size e
  | tbl ps => exact Heap.lt_size (show h.get? a = some _ from x)
  | met f y => exact Heap.lt_size (show h.get? a = some _ from x)
  | ext φ => obtain ⟨_, ⟨_, e⟩, _⟩ := x; exact Heap.lt_size e
theorem Paired.mapP {α β : Type} {F G : α -> β -> Prop} : ∀ {l₁ : List α} {l₂ : List β}, Paired F l₁ l₂ -> (∀ a b, F a b -> G a b) -> Paired G l₁ l₂
  | _, _, .nil, _ => .nil
  | _, _, .cons r t, f => .cons (f _ _ r) (Paired.mapP t f)
theorem zac.stay (x : zac P w H h a o) (k : ∀ b u, (b = a \/ H b = some (.own a)) -> h.get? b = some u -> h'.get? b = some u)
    (ho : ∀ b, H b = some (.own a) -> H' b = some (.own a)) (ht : ∀ b xs, H b = some (.tup xs) -> H' b = some (.tup xs)) : zac P w H' h' a o := by
  induction o with
  | lst xs => obtain ⟨z, its, n, r, e⟩ := x; exact ⟨z, its, n, r, k _ _ (.inl rfl) e⟩
  | tup xs => obtain ⟨z, its, r, ob, e, c⟩ := x; exact ⟨z, its, r, ob, k _ _ (.inl rfl) e, c⟩
  | dK kvs => obtain ⟨z, y, vs, r, ob, es, ep, e, c⟩ := x; exact ⟨z, y, vs, r, ob, es, ep, k _ _ (.inl rfl) e, c⟩
  | dT kvs =>
    obtain ⟨z, y, xs, r, ob, es, ep, e, c⟩ := x
    exact ⟨z, y, xs, Paired.mapP r fun p q z => ⟨z.1, ht _ _ z.2.1, z.2.2⟩, ob, es, ep, k _ _ (.inl rfl) e, c⟩
  | set S n => obtain ⟨ob, es, ep, t, e, c⟩ := x; exact ⟨ob, es, ep, t, k _ _ (.inl rfl) e, c⟩
  | ins C dx fs =>
    obtain ⟨d, z, ne, e, mA, ⟨od, es, ep, e2, c⟩, r⟩ := x
    exact ⟨ho _ d, z, ne, k _ _ (.inl rfl) e, mA, ⟨od, es, ep, k _ _ (.inr d) e2, c⟩, r⟩
  | own y => obtain ⟨ob, e⟩ := x; exact ⟨ob, k _ _ (.inl rfl) e⟩
  | xd fs => obtain ⟨mA, ⟨od, es, ep, e, c⟩, r⟩ := x; exact ⟨mA, ⟨od, es, ep, k _ _ (.inl rfl) e, c⟩, r⟩
  | rng lo hi => obtain ⟨t, u, v, e⟩ := x; exact ⟨t, u, v, k _ _ (.inl rfl) e⟩
  | frz ob u ih => obtain ⟨e, q⟩ := x; exact ⟨k _ _ (.inl rfl) e, ih q⟩
  | tbl ps =>
    have e : h.get? a = some { cls := .none, data := .fields ps } := x
    show h'.get? a = some { cls := .none, data := .fields ps }
    exact k a _ (.inl rfl) e
  | met f y =>
    have e : h.get? a = some (PySem.W.methodObj (.ref f) (.ref y)) := x
    show h'.get? a = some (PySem.W.methodObj (.ref f) (.ref y))
    exact k a _ (.inl rfl) e
  | ext φ => obtain ⟨p, ⟨o, e⟩, st⟩ := x; exact ⟨st _ _ p fun o q => k _ _ (.inl rfl) q, ⟨o, k _ _ (.inl rfl) e⟩, st⟩
theorem HOk.lt (x : HOk P w H h) (e : H a = some o) : a < h.objs.size := (x a o e).lt
theorem HOk.fresh (x : HOk P w H h) (e : h.objs.size <= a) : H a = none := by
  cases q : H a with
  | none => rfl
  | some u => exact absurd (Nat.lt_of_lt_of_le (x.lt q) e) (Nat.lt_irrefl _)
theorem HOk.kept (x : HOk P w H h) (k : ∀ b u, h.get? b = some u -> h'.get? b = some u) : HOk P w H h' := fun a o e =>
  (x a o e).stay (fun b u _ q => k b u q) (fun _ q => q) fun _ _ q => q
theorem HOk.laid (x : HOk P w H h) (k : ∀ b u, h.get? b = some u -> h'.get? b = some u) (hp : h.objs.size <= a) (new : zac P w (upd H a o) h' a o) : HOk P w (upd H a o) h' := fun b u e => by
  have hn := x.fresh hp
  by_cases hb : b = a
  · subst hb; rw [upd_same] at e; cases e; exact new
  · rw [upd_ne hb] at e
    exact (x b u e).stay (fun c v _ q => k c v q) (fun c q => by rw [upd_ne (zcc q hn)]; exact q) fun c xs q => by rw [upd_ne (zcc q hn)]; exact q
end
def Rd (H : Hp) (a : Addr) (u : HO) : Prop := H a = some u \/ ∃ o, H a = some (.frz o u)
theorem Rd.of {H : Hp} {a : Addr} {u : HO} (h : H a = some u) : Rd H a u := .inl h
theorem Rd.ok {P : Program} {w : World} {H : Hp} {h : Heap} {a : Addr} {u : HO} (r : Rd H a u) (x : HOk P w H h) : zac P w H h a u := by
  rcases r with r | ⟨o, r⟩
  · exact x a u r
  · obtain ⟨_, q⟩ := x a _ r
    exact q
def Mut : Option HO -> Prop
  | some (.lst _) => True
  | some (.dK _) => True
  | some (.dT _) => True
  | some (.set _ _) => True
  | some (.ins _ _ _) => True
  | some (.ext _) => True
  | _ => False
section
variable {P : Program} {w : World} {H : Hp} {h h' : Heap} {x e : Addr} {o' : HO}
theorem HOk.write (ok : HOk P w H h) (mu : Mut (H x)) (he : e = x \/ H e = some (.own x)) (k : ∀ b u, b ≠ e -> h.get? b = some u -> h'.get? b = some u) (heo : ∃ u, h'.get? e = some u)
    (new : zac P w (upd H x o') h' x o') : HOk P w (upd H x o') h' := fun b u q => by
  have nown : ∀ c y, H c = some (.own y) -> c ≠ x := fun c y r z => by subst z; rw [r] at mu; exact mu
  have ntup : ∀ c xs, H c = some (.tup xs) -> c ≠ x := fun c xs r z => by subst z; rw [r] at mu; exact mu
  by_cases hb : b = x
  · subst hb; rw [upd_same] at q; cases q; exact new
  · rw [upd_ne hb] at q
    by_cases hbe : b = e
    · have q' : H b = some (.own x) := by
        rcases he with z | z
        · exact absurd (hbe.trans z) hb
        · rw [hbe]; exact z
      rw [q] at q'; cases q'
      obtain ⟨v, hv⟩ := heo
      exact ⟨v, by rw [hbe]; exact hv⟩
    · refine (ok b u q).stay (fun c v hc r => k c v ?_ r) (fun c r => by rw [upd_ne (nown c b r)]; exact r) fun c xs r => by rw [upd_ne (ntup c xs r)]; exact r
      rcases hc with rfl | hc
      · exact hbe
      · rintro rfl
        rcases he with z | z
        · exact nown c b hc z
        · rw [hc] at z; cases z; exact hb rfl
end
structure Un (fs ex : List Addr) (H H' : Hp) (h h' : Heap) : Prop where
  keep : ∀ b o, h.get? b = some o -> H b = none -> b ∉ fs -> b ∉ ex -> h'.get? b = some o
  slot : ∀ b o, h.get? b = some o -> H b = none -> b ∈ fs -> b ∉ ex -> ∃ sl, h'.get? b = some { o with slots := sl }
  free : ∀ b o, h.get? b = some o -> H b = none -> b ∉ ex -> H' b = none
  there : ∀ b o, h.get? b = some o -> b ∉ ex -> ∃ o', h'.get? b = some o'
  tups : ∀ b xs, H b = some (.tup xs) -> H' b = some (.tup xs)
  frzs : ∀ b o u, H b = some (.frz o u) -> H' b = some (.frz o u)
  tbls : ∀ b ps, H b = some (.tbl ps) -> ∃ more, H' b = some (.tbl (ps ++ more))
section
variable {fs fs' ex ex' : List Addr} {H H1 H2 : Hp} {h h1 h2 h' : Heap} {a x e : Addr} {o : HO}
theorem Un.any (u : Un fs ex H H1 h h1) {b : Addr} {ob : Obj} (q : h.get? b = some ob) (n : H b = none) (hx : b ∉ ex) : ∃ sl, h1.get? b = some { ob with slots := sl } := by
  by_cases hb : b ∈ fs
  · exact u.slot b ob q n hb hx
  · exact ⟨ob.slots, u.keep b ob q n hb hx⟩
theorem Un.trans (a : Un fs ex H H1 h h1) (b : Un fs ex H1 H2 h1 h2) : Un fs ex H H2 h h2 where
  keep := fun c ob q n hc hx => b.keep c ob (a.keep c ob q n hc hx) (a.free c ob q n hx) hc hx
  slot := fun c ob q n hc hx => by
    obtain ⟨sl, e1⟩ := a.slot c ob q n hc hx
    obtain ⟨sl', e2⟩ := b.slot c _ e1 (a.free c ob q n hx) hc hx
    exact ⟨sl', e2⟩
  free := fun c ob q n hx => by
    obtain ⟨o', e1⟩ := a.there c ob q hx
    exact b.free c o' e1 (a.free c ob q n hx) hx
  there := fun c ob q hx => by
    obtain ⟨o', e1⟩ := a.there c ob q hx
    exact b.there c o' e1 hx
  tups := fun c xs q => b.tups c xs (a.tups c xs q)
  frzs := fun c ob xs q => b.frzs c ob xs (a.frzs c ob xs q)
  tbls := fun c ps q => by
    obtain ⟨m1, e1⟩ := a.tbls c ps q
    obtain ⟨m2, e2⟩ := b.tbls c _ e1
    exact ⟨m1 ++ m2, by rw [e2, Array.append_assoc]⟩
theorem Un.kept (k : ∀ b u, h.get? b = some u -> h'.get? b = some u) : Un fs ex H H h h' :=
  ⟨fun b ob q _ _ _ => k b ob q, fun b ob q _ _ _ => ⟨ob.slots, k b ob q⟩, fun _ _ _ n _ => n, fun b ob q _ => ⟨ob, k b ob q⟩, fun _ _ q => q, fun _ _ _ q => q, fun _ ps q => ⟨#[], by rw [q]; simp⟩⟩
theorem Un.refl : Un fs ex H H h h := Un.kept fun _ _ q => q
theorem Un.laid (k : ∀ b u, h.get? b = some u -> h'.get? b = some u) (hp : h.objs.size <= a) (hn : H a = none) : Un fs ex H (upd H a o) h h' where
  keep := fun b u q _ _ _ => k b u q
  slot := fun b u q _ _ _ => ⟨u.slots, k b u q⟩
  free := fun b u q n _ => by rw [upd_ne (Nat.ne_of_lt (Nat.lt_of_lt_of_le (Heap.lt_size q) hp))]; exact n
  there := fun b u q _ => ⟨u, k b u q⟩
  tups := fun b xs q => by rw [upd_ne (zcc q hn)]; exact q
  frzs := fun b u xs q => by rw [upd_ne (zcc q hn)]; exact q
  tbls := fun b ps q => ⟨#[], by rw [upd_ne (zcc q hn), q]; simp⟩
theorem Un.write (mu : Mut (H x)) (he : e = x \/ H e = some (.own x)) (k : ∀ b u, b ≠ e -> h.get? b = some u -> h'.get? b = some u) (heo : ∃ u, h'.get? e = some u) : Un fs ex H (upd H x o) h h' := by
  have hx : ∀ b, H b = none -> b ≠ x := fun b n z => by subst z; rw [n] at mu; exact mu
  have hb : ∀ b, H b = none -> b ≠ e := fun b n z => by
    subst z
    rcases he with r | r
    · exact hx b n r
    · rw [n] at r; cases r
  have hm : ∀ b u, H b = some u -> ¬ Mut (some u) -> b ≠ x := fun b u q nm z => by subst z; rw [q] at mu; exact nm mu
  refine ⟨fun b u q n _ _ => k b u (hb b n) q, fun b u q n _ _ => ⟨u.slots, k b u (hb b n) q⟩, fun b u q n _ => by rw [upd_ne (hx b n)]; exact n, fun b u q _ => ?_,
    fun b xs q => by rw [upd_ne (hm b _ q fun z => z)]; exact q, fun b u xs q => by rw [upd_ne (hm b _ q fun z => z)]; exact q, fun b ps q => ⟨#[], by rw [upd_ne (hm b _ q fun z => z), q]; simp⟩⟩
  by_cases hbe : b = e
  · subst hbe; exact heo
  · exact ⟨u, k b u hbe q⟩
theorem Un.mono (u : Un fs ex H H1 h h1) (hs : ∀ b ∈ fs, b ∈ fs') (hx : ∀ b ∈ ex, b ∈ ex') : Un fs' ex' H H1 h h1 :=
  ⟨fun b ob q n hb he => u.keep b ob q n (fun z => hb (hs b z)) fun z => he (hx b z), fun _ _ q n _ he => u.any q n fun z => he (hx _ z), fun b ob q n he => u.free b ob q n fun z => he (hx b z), fun b ob q he => u.there b ob q fun z => he (hx b z), u.tups, u.frzs, u.tbls⟩
end
def trk (h : Heap) (H : Hp) : List Addr := (List.range h.objs.size).filter fun a => (H a).isSome
def hidT (h : Heap) (H : Hp) : Heap := PySem.W.hideAll h (trk h H)
theorem hidT_size (h : Heap) (H : Hp) : (hidT h H).objs.size = h.objs.size := PySem.W.hideAll_size _ _
theorem hidT_get {h : Heap} {H : Hp} {b : Addr} {o : Obj} (e : h.get? b = some o) (n : H b = none) : (hidT h H).get? b = some o :=
  PySem.W.hideAll_get _ e fun hm => by
    have q : (H b).isSome = true := (List.mem_filter.mp hm).2
    rw [n] at q; simp at q
theorem of_hidT {h : Heap} {H : Hp} {b : Addr} {o : Obj} (e : (hidT h H).get? b = some o) : h.get? b = some o /\ H b = none := by
  have e' : h.get? b = some o := PySem.W.of_hideAll (trk h H) e
  refine ⟨e', ?_⟩
  cases q : H b with
  | none => rfl
  | some x =>
    have hm : b ∈ trk h H := List.mem_filter.mpr ⟨List.mem_range.mpr (Heap.lt_size e'), by simp [q]⟩
    have z : (hidT h H).get? b = none := PySem.W.hideAll_none (trk h H) hm
    rw [z] at e; cases e
def allNews (g h : Heap) (L : Addr) : List (Addr × Obj) := (List.range h.objs.size).filterMap fun a => if a = L \/ (g.get? a).isSome = true then none else (h.get? a).map fun o => (a, o)
def rest (g h : Heap) (L d : Addr) : List (Addr × Obj) := (allNews g h L).filter fun p => decide (p.1 ≠ d)
end L2
namespace L2
open PySem PySem.Spec PyProof.Rows
structure Mod (K : PySem.W.Frag) (mg : Str -> Option Value) (base : Heap) : Prop where
  kin : K.In base
  glob : base.Ns mainGlobals mg
  blt : ∃ mb, base.Ns builtinsNs mb /\ ∀ x : Str, x ≠ "__name__" -> mb x = bootBuiltins x
  nolimit : base.NoLimit
structure Cx where
  prog : Program
  w : World
  K : PySem.W.Frag
  mg : Str -> Option Value
  base : Heap
  A : Around
  N : List Str
  s₀ : Shared
  H₀ : Hp
  env : Env
  outer : List Env
  stack : List Env
  ex : List Addr
  fn : Str -> Bool
  calm : Bool
  pn : List (Addr × Obj)
  xe : Value -> Shared -> Prop
def frs (l : List Env) : List Addr := l.filterMap (·.frame)
abbrev Cx.fs (X : Cx) : List Addr := frs X.outer
def Vis (sc : Scope) (x : Str) : Prop := sc.names.lookup x = some .local \/ sc.names.lookup x = some .cell \/ sc.names.lookup x = some .free
def Loc (sc : Scope) (x : Str) : Prop := sc.names.lookup x = some .local \/ sc.names.lookup x = some .cell
def Look (env : Env) (h : Heap) (m : Str -> Option Value) (x : Str) (u : Value) : Prop :=
  (env.kindOf x = some .local /\ m x = some u) \/ ((env.kindOf x = some .cell \/ env.kindOf x = some .free) /\ ∃ c, env.cells.lookup x = some c /\ h.IsCell c (some u))
structure Cx.Ok (X : Cx) : Prop where
  mod : Mod X.K X.mg X.base
  kind : X.env.scope.kind = .function
  glob : X.env.globals = mainGlobals
  blt : X.env.builtins = builtinsNs
  above : X.s₀.heap.objs.size <= X.env.locals
  inj : ∀ x y c, X.env.cells.lookup x = some c -> X.env.cells.lookup y = some c -> x = y
  has : ∀ x, (X.env.kindOf x = some .cell \/ X.env.kindOf x = some .free) -> ∃ c, X.env.cells.lookup x = some c
  cab : ∀ x c, X.fn x = true -> X.env.cells.lookup x = some c -> X.s₀.heap.objs.size <= c
  hd : X.calm = true -> X.A.handled = none
  frames : X.A.frames = some X.stack
  stk : X.stack = X.outer \/ (X.stack = X.env :: X.outer /\ X.env.frame = some X.env.locals)
  exf : ∀ b ∈ X.ex, b ≠ X.env.locals /\ ∀ x c, X.env.cells.lookup x = some c -> c ≠ b
  bs : ∀ b o, X.base.get? b = some o -> X.s₀.heap.get? b = some o /\ X.H₀ b = none
  bsz : X.base.objs.size <= X.s₀.heap.objs.size
  noex : ∀ b o, X.base.get? b = some o -> b ∉ X.ex
  exfs : ∀ b ∈ X.ex, b ∉ X.fs
  funs : X.s₀.heap.FunFrames X.base X.outer
  frf : ∀ b ∈ X.fs, X.H₀ b = none
structure Inv (X : Cx) (pins : List (Addr × Obj)) (σ : List (Option V)) (H : Hp) (s : Shared) : Prop where
  ok : X.Ok
  os : s.os = X.s₀.os
  bare : AllBare s.gens
  base : Un X.fs X.ex X.H₀ H X.s₀.heap s.heap
  loc : ∃ m, s.heap.Ns X.env.locals m /\ ∀ (i : Nat) (x : Str) (v : V), X.N[i]? = some x -> σ[i]? = some (some v) -> Vis X.env.scope x -> ∃ u, zae v u /\ Look X.env s.heap m x u
  cell : ∀ x c, X.env.cells.lookup x = some c -> ∃ v, s.heap.IsCell c v
  free : H X.env.locals = none
  freeC : ∀ x c, X.env.cells.lookup x = some c -> H c = none
  pin : ∀ p ∈ X.pn ++ pins, s.heap.get? p.1 = some p.2 /\ H p.1 = none /\ p.1 ≠ X.env.locals /\ p.1 ∉ X.fs /\ ∀ v, p.2.data ≠ .cell v
  hok : HOk X.prog X.w H s.heap
  len : σ.length = X.N.length
section
variable {X : Cx} {pins : List (Addr × Obj)} {σ : List (Option V)} {H H' : Hp} {s : Shared} {h' : Heap}
theorem Cx.Ok.nofr (ok : X.Ok) {b : Addr} {o : Obj} (e : X.base.get? b = some o) : b ∉ X.fs := fun hb => by
  have := (ok.funs.mem hb).1
  rw [e] at this; cases this
theorem Inv.bs (I : Inv X pins σ H s) : ∀ b o, X.base.get? b = some o -> s.heap.get? b = some o /\ H b = none := fun b o e =>
  ⟨I.base.keep b o (I.ok.bs b o e).1 (I.ok.bs b o e).2 (I.ok.nofr e) (I.ok.noex b o e), I.base.free b o (I.ok.bs b o e).1 (I.ok.bs b o e).2 (I.ok.noex b o e)⟩
theorem Inv.bk (I : Inv X pins σ H s) : ∀ b o, X.base.get? b = some o -> s.heap.get? b = some o := fun b o e => (I.bs b o e).1
theorem Inv.mod (I : Inv X pins σ H s) : Mod X.K X.mg X.base := I.ok.mod
theorem Inv.kIn (I : Inv X pins σ H s) : X.K.In s.heap := I.ok.mod.kin.keeps I.bk
theorem Inv.nolimit (I : Inv X pins σ H s) : s.heap.NoLimit := I.ok.mod.nolimit.keeps I.bk
theorem Inv.lt (I : Inv X pins σ H s) : X.env.locals < s.heap.objs.size := let ⟨_, hn, _⟩ := I.loc; hn.lt
theorem Inv.sz (I : Inv X pins σ H s) : X.s₀.heap.objs.size <= s.heap.objs.size := Nat.le_trans I.ok.above (Nat.le_of_lt I.lt)
theorem Inv.nofs (I : Inv X pins σ H s) {a : Addr} (h : s.heap.objs.size <= a) : a ∉ X.fs := fun hb => by
  obtain ⟨_, o, ho, _⟩ := I.ok.funs.mem hb
  exact absurd (Nat.lt_of_lt_of_le (Heap.lt_size ho) (Nat.le_trans I.sz h)) (Nat.lt_irrefl _)
theorem Inv.cne (I : Inv X pins σ H s) : ∀ x c, X.env.cells.lookup x = some c -> c ≠ X.env.locals := fun x c e z => by
  obtain ⟨v, o, ho, hd⟩ := I.cell x c e
  obtain ⟨m, ⟨o', es, ep, ho', hd', _⟩, _⟩ := I.loc
  rw [z, ho'] at ho; cases ho; rw [hd'] at hd; cases hd
theorem Inv.funs (I : Inv X pins σ H s) : s.heap.FunFrames X.base X.outer := by
  have all : ∀ (l : List Env), (∀ b ∈ frs l, b ∈ X.fs) -> X.s₀.heap.FunFrames X.base l -> s.heap.FunFrames X.base l := by
    intro l
    induction l with
    | nil => intro _ _; trivial
    | cons env r ih =>
      intro hs hl
      obtain ⟨hk, ⟨L, o, hf, hn, ho, hd⟩, hr⟩ := hl
      have hL : L ∈ X.fs := hs L (by unfold frs; rw [List.filterMap_cons, hf]; exact List.mem_cons_self)
      obtain ⟨sl, e⟩ := I.base.slot L o ho (I.ok.frf L hL) hL fun z => I.ok.exfs L z hL
      exact ⟨hk, ⟨L, _, hf, hn, e, hd⟩, ih (fun b hb => hs b (by unfold frs; rw [List.filterMap_cons, hf]; exact List.mem_cons_of_mem _ hb)) hr⟩
  exact all X.outer (fun _ hb => hb) I.ok.funs
theorem Inv.stack (I : Inv X pins σ H s) : s.heap.FunFrames X.base X.stack := by
  rcases I.ok.stk with e | ⟨e, hf⟩
  · rw [e]; exact I.funs
  · rw [e]
    obtain ⟨m, hn, _⟩ := I.loc
    refine .cons (by rw [I.ok.kind]; decide) hf hn ?_ I.funs
    exact Heap.get?_none_of_le (Nat.le_trans I.ok.bsz I.ok.above)
theorem Inv.stkSub (I : Inv X pins σ H s) : ∀ b ∈ frs X.stack, b ∈ X.env.locals :: X.fs := fun b hb => by
  rcases I.ok.stk with e | ⟨e, hf⟩
  · rw [e] at hb; exact List.mem_cons_of_mem _ hb
  · rw [e] at hb
    unfold frs at hb
    rw [List.filterMap_cons, hf] at hb
    exact hb
theorem Inv.stkFree (I : Inv X pins σ H s) : ∀ b ∈ frs X.stack, H b = none := fun b hb => by
  rcases List.mem_cons.mp (I.stkSub b hb) with e | hb
  · rw [e]; exact I.free
  · obtain ⟨_, o, ho, _⟩ := I.ok.funs.mem hb
    exact I.base.free b o ho (I.ok.frf b hb) fun z => I.ok.exfs b z hb
theorem Inv.step {g' : Array GenState} {t' : Nat} {d' : Drawn} {ch : List Addr} (I : Inv X pins σ H s)
    (hch : ∀ b ∈ ch, (b ∈ X.ex \/ X.s₀.heap.objs.size <= b) /\ b ≠ X.env.locals /\ (∀ x c, X.env.cells.lookup x = some c -> c ≠ b) /\ ∀ p ∈ X.pn ++ pins, p.1 ≠ b)
    (keep : ∀ b o, b ≠ X.env.locals -> b ∉ X.fs -> b ∉ ch -> s.heap.get? b = some o -> H b = none -> h'.get? b = some o)
    (slot : ∀ b o, b ≠ X.env.locals -> b ∈ X.fs -> b ∉ ch -> s.heap.get? b = some o -> H b = none -> ∃ sl, h'.get? b = some { o with slots := sl }) (free : ∀ b o, b ∉ ch -> s.heap.get? b = some o -> H b = none -> H' b = none)
    (there : ∀ b o, b ∉ ch -> s.heap.get? b = some o -> ∃ o', h'.get? b = some o')
    (tups : ∀ b xs, H b = some (.tup xs) -> H' b = some (.tup xs)) (frzs : ∀ b o u, H b = some (.frz o u) -> H' b = some (.frz o u)) (tbls : ∀ b ps, H b = some (.tbl ps) -> ∃ more, H' b = some (.tbl (ps ++ more)))
    (ns : ∀ m, s.heap.Ns X.env.locals m -> h'.Ns X.env.locals m) (hok : HOk X.prog X.w H' h') (hg : AllBare g') :
    Inv X pins σ H' { s with heap := h', gens := g', drawn := d', toks := t' } := by
  have neL : ∀ b o, X.s₀.heap.get? b = some o -> b ≠ X.env.locals := fun b o e => Nat.ne_of_lt (Nat.lt_of_lt_of_le (Heap.lt_size e) I.ok.above)
  have neC : ∀ b o, X.s₀.heap.get? b = some o -> b ∉ X.ex -> b ∉ ch := fun b o e hx hb => by
    rcases (hch b hb).1 with z | z
    · exact hx z
    · exact absurd (Nat.lt_of_lt_of_le (Heap.lt_size e) z) (Nat.lt_irrefl _)
  have cellK : ∀ x c, X.env.cells.lookup x = some c -> ∀ v, s.heap.IsCell c v -> h'.IsCell c v := fun x c e v ⟨o, ho, hd⟩ => by
    have nch : c ∉ ch := fun z => (hch c z).2.2.1 x c e rfl
    by_cases hc : c ∈ X.fs
    · obtain ⟨sl, q⟩ := slot c o (I.cne x c e) hc nch ho (I.freeC x c e)
      exact ⟨_, q, hd⟩
    · exact ⟨o, keep c o (I.cne x c e) hc nch ho (I.freeC x c e), hd⟩
  refine ⟨I.ok, I.os, hg, ⟨fun b o e n hb hx => ?_, fun b o e n hb hx => ?_, fun b o e n hx => ?_, fun b o e hx => ?_, fun b xs e => tups b xs (I.base.tups b xs e), fun b o xs e => frzs b o xs (I.base.frzs b o xs e), fun b ps e => ?_⟩, ?_, fun x c e => ?_, ?_, fun x c e => ?_, fun p hp => ?_, hok, I.len⟩
  · exact keep b o (neL b o e) hb (neC b o e hx) (I.base.keep b o e n hb hx) (I.base.free b o e n hx)
  · obtain ⟨sl, e1⟩ := I.base.slot b o e n hb hx
    obtain ⟨sl', e2⟩ := slot b _ (neL b o e) hb (neC b o e hx) e1 (I.base.free b o e n hx)
    exact ⟨sl', e2⟩
  · obtain ⟨o', e1⟩ := I.base.there b o e hx
    exact free b o' (neC b o e hx) e1 (I.base.free b o e n hx)
  · obtain ⟨o', e1⟩ := I.base.there b o e hx
    exact there b o' (neC b o e hx) e1
  · obtain ⟨m1, e1⟩ := I.base.tbls b ps e
    obtain ⟨m2, e2⟩ := tbls b _ e1
    exact ⟨m1 ++ m2, by rw [e2, Array.append_assoc]⟩
  · obtain ⟨m, hn, hl⟩ := I.loc
    refine ⟨m, ns m hn, fun i x v e1 e2 e3 => ?_⟩
    obtain ⟨u, r, l⟩ := hl i x v e1 e2 e3
    refine ⟨u, r, ?_⟩
    rcases l with l | ⟨k, c, e, z⟩
    · exact .inl l
    · exact .inr ⟨k, c, e, cellK x c e _ z⟩
  · obtain ⟨v, z⟩ := I.cell x c e
    exact ⟨v, cellK x c e v z⟩
  · obtain ⟨m, ⟨o, _, _, ho, _⟩, _⟩ := I.loc
    exact free _ o (fun z => (hch _ z).2.1 rfl) ho I.free
  · obtain ⟨v, o, ho, hd⟩ := I.cell x c e
    exact free c o (fun z => (hch c z).2.2.1 x c e rfl) ho (I.freeC x c e)
  · obtain ⟨e, n, ne, nf, d⟩ := I.pin p hp
    have nch : p.1 ∉ ch := fun z => (hch p.1 z).2.2.2 p hp rfl
    exact ⟨keep p.1 p.2 ne nf nch e n, free p.1 p.2 nch e n, ne, nf, d⟩
theorem Inv.un {t' : Nat} (I : Inv X pins σ H s) (u : Un X.fs [] H H' s.heap h') (hok : HOk X.prog X.w H' h') : Inv X pins σ H' { s with heap := h', toks := t' } := by
  obtain ⟨m, ⟨o, es, ep, ho, r⟩, _⟩ := id I.loc
  obtain ⟨sl, hL⟩ := u.any ho I.free (by simp)
  exact I.step (g' := s.gens) (d' := s.drawn) (ch := []) (fun _ z => nomatch z) (fun b o _ hb _ e n => u.keep b o e n hb (by simp)) (fun b o _ hb _ e n => u.slot b o e n hb (by simp)) (fun b o _ e n => u.free b o e n (by simp)) (fun b o _ e => u.there b o e (by simp)) u.tups u.frzs u.tbls (fun m' hm => by
    obtain ⟨o', es', ep', ho', r'⟩ := hm
    rw [ho] at ho'; cases ho'
    exact ⟨_, es', ep', hL, r'⟩) hok I.bare
theorem Inv.call {g' : Array GenState} {t' : Nat} {d' : Drawn} {ch : List Addr} (I : Inv X pins σ H s) (u : Un (frs X.stack) ch H H' s.heap h') (hok : HOk X.prog X.w H' h') (hg : AllBare g')
    (hch : ∀ b ∈ ch, (b ∈ X.ex \/ X.s₀.heap.objs.size <= b) /\ b ≠ X.env.locals /\ (∀ x c, X.env.cells.lookup x = some c -> c ≠ b) /\ ∀ p ∈ X.pn ++ pins, p.1 ≠ b) :
    Inv X pins σ H' { s with heap := h', gens := g', drawn := d', toks := t' } := by
  obtain ⟨m, ⟨o, es, ep, ho, r⟩, _⟩ := id I.loc
  obtain ⟨sl, hL⟩ := u.any ho I.free fun z => (hch _ z).2.1 rfl
  exact I.step (ch := ch) hch (fun b o hL hb hc e n => u.keep b o e n (fun z => (List.mem_cons.mp (I.stkSub b z)).elim hL hb) hc) (fun b o _ _ hc e n => u.any e n hc) (fun b o hc e n => u.free b o e n hc) (fun b o hc e => u.there b o e hc) u.tups u.frzs u.tbls (fun m' hm => by
    obtain ⟨o', es', ep', ho', r'⟩ := hm
    rw [ho] at ho'; cases ho'
    exact ⟨_, es', ep', hL, r'⟩) hok hg
theorem Inv.turned {t' : Nat} {it : Addr} (I : Inv X pins σ H s) (k : ∀ b o, b ≠ it -> s.heap.get? b = some o -> h'.get? b = some o) (hn : H it = none) (hL : it ≠ X.env.locals)
    (h1 : it ∈ X.ex \/ X.s₀.heap.objs.size <= it) (h2 : ∀ x c, X.env.cells.lookup x = some c -> c ≠ it) (h3 : ∀ p ∈ X.pn ++ pins, p.1 ≠ it) : Inv X pins σ H { s with heap := h', toks := t' } := by
  have nit : ∀ b u, H b = some u -> b ≠ it := fun b u e z => by rw [z, hn] at e; cases e
  refine I.step (g' := s.gens) (d' := s.drawn) (ch := [it]) (fun b hb => ?_) (fun b o _ _ hc e _ => k b o (fun z => hc (by simp [z])) e) (fun b o _ _ hc e _ => ⟨o.slots, k b o (fun z => hc (by simp [z])) e⟩) (fun _ _ _ _ n => n)
    (fun b o hc e => ⟨o, k b o (fun z => hc (by simp [z])) e⟩) (fun _ _ e => e) (fun _ _ _ e => e) (fun b ps e => ⟨#[], by rw [e]; simp⟩) (fun m hm => ?_) (fun b u e => ?_) I.bare
  · have e : b = it := by simpa using hb
    subst e
    exact ⟨h1, hL, h2, h3⟩
  · obtain ⟨o, es, ep, ho, r⟩ := hm
    exact ⟨o, es, ep, k _ o (Ne.symm hL) ho, r⟩
  · refine (I.hok b u e).stay (fun c v hc q => k c v ?_ q) (fun _ q => q) fun _ _ q => q
    rcases hc with z | z
    · rw [z]; exact nit b u e
    · exact nit c _ z
theorem Inv.tok (I : Inv X pins σ H s) (t : Nat) : Inv X pins σ H { s with toks := t } := I.un (h' := s.heap) (t' := t) Un.refl I.hok
theorem Inv.kept {t' : Nat} (I : Inv X pins σ H s) (k : ∀ b u, s.heap.get? b = some u -> h'.get? b = some u) : Inv X pins σ H { s with heap := h', toks := t' } := I.un (Un.kept k) (I.hok.kept k)
theorem Inv.laid {a : Addr} {o : HO} {t' : Nat} (I : Inv X pins σ H s) (k : ∀ b u, s.heap.get? b = some u -> h'.get? b = some u) (hp : s.heap.objs.size <= a) (new : zac X.prog X.w (upd H a o) h' a o) :
    Inv X pins σ (upd H a o) { s with heap := h', toks := t' } := I.un (Un.laid k hp (I.hok.fresh hp)) (I.hok.laid k hp new)
theorem Inv.write {x e : Addr} {o : HO} {t' : Nat} (I : Inv X pins σ H s) (mu : Mut (H x)) (he : e = x \/ H e = some (.own x)) (k : ∀ b u, b ≠ e -> s.heap.get? b = some u -> h'.get? b = some u) (heo : ∃ u, h'.get? e = some u)
    (new : zac X.prog X.w (upd H x o) h' x o) : Inv X pins σ (upd H x o) { s with heap := h', toks := t' } := I.un (Un.write mu he k heo) (I.hok.write mu he k heo new)
theorem Inv.pins_of {pins' : List (Addr × Obj)} (I : Inv X pins σ H s) (h : ∀ p ∈ pins', s.heap.get? p.1 = some p.2 /\ H p.1 = none /\ p.1 ≠ X.env.locals /\ p.1 ∉ X.fs /\ ∀ v, p.2.data ≠ .cell v) : Inv X pins' σ H s :=
  ⟨I.ok, I.os, I.bare, I.base, I.loc, I.cell, I.free, I.freeC, fun p hp => (List.mem_append.mp hp).elim (fun z => I.pin p (List.mem_append_left _ z)) (h p), I.hok, I.len⟩
theorem nodup_ix {N : List Str} (hN : N.Nodup) {i j : Nat} {x : Str} (a : N[i]? = some x) (b : N[j]? = some x) : i = j := by
  obtain ⟨h1, e1⟩ := List.getElem?_eq_some_iff.mp a
  obtain ⟨h2, e2⟩ := List.getElem?_eq_some_iff.mp b
  exact (List.getElem_inj hN).mp (e1.trans e2.symm)
theorem store_ok2 {M : Model} {A : Around} {E : Value -> Shared -> Prop} {i : Nat} {x : Str} {v : V} {u : Value} {Q : Unit -> Shared -> Prop} (I : Inv X pins σ H s) (hN : X.N.Nodup) (hi : X.N[i]? = some x) (hx : Loc X.env.scope x) (r : zae v u)
    (h : ∀ s', Inv X pins (σ.set i (some v)) H s' -> (∃ a, Heap.SameBut a s.heap s'.heap /\ (a = X.env.locals \/ X.env.cells.lookup x = some a)) -> Q () s') (hf : X.fn x = true \/ X.env.scope.names.lookup x = some .local := by first | exact .inl rfl | exact .inr rfl | assumption) : wpAny M A (storeName X.env x u) Q E s := by
  obtain ⟨m, hn, hl⟩ := id I.loc
  have hcls : (X.env.scope.kind == .class || (X.env.scope.kind == .module && X.env.locals != X.env.globals)) = false := by rw [I.ok.kind]; rfl
  have hiσ : i < σ.length := by rw [I.len]; exact (List.getElem?_eq_some_iff.mp hi).1
  have cne := I.cne
  have tracked : ∀ {a : Addr} {h' : Heap}, (∃ o, s.heap.get? a = some o /\ H a = none) -> Heap.SameBut a s.heap h' -> HOk X.prog X.w H h' := fun {a h'} ha hs b ob e => by
    obtain ⟨_, _, hfree⟩ := ha
    refine (I.hok b ob e).stay (fun c w' hc q => (hs.2 c ?_).trans q) (fun _ q => q) fun _ _ q => q
    rintro rfl
    rcases hc with rfl | hc
    · rw [hfree] at e; cases e
    · rw [hfree] at hc; cases hc
  rcases hx with hk | hk
  · refine wpAny_storeName_local hk hn (fun h' hn' hs => ?_) hcls
    obtain ⟨oL, _, _, hoL, _⟩ := id hn
    refine h _ ⟨I.ok, I.os, I.bare, ⟨fun b o e n hb hx => ?_, fun b o e n hb hx => ?_, I.base.free, fun b o e hx => ?_, I.base.tups, I.base.frzs, I.base.tbls⟩, ⟨_, hn', fun j y v' e1 e2 e3 => ?_⟩, fun y c e => ?_, I.free, I.freeC, fun p hp => ?_, tracked ⟨oL, hoL, I.free⟩ hs, by simpa using I.len⟩ ⟨_, hs, .inl rfl⟩
    · exact (hs.2 b (Nat.ne_of_lt (Nat.lt_of_lt_of_le (Heap.lt_size e) I.ok.above))).trans (I.base.keep b o e n hb hx)
    · obtain ⟨sl, e1⟩ := I.base.slot b o e n hb hx
      exact ⟨sl, (hs.2 b (Nat.ne_of_lt (Nat.lt_of_lt_of_le (Heap.lt_size e) I.ok.above))).trans e1⟩
    · obtain ⟨o', e1⟩ := I.base.there b o e hx
      exact ⟨o', (hs.2 b (Nat.ne_of_lt (Nat.lt_of_lt_of_le (Heap.lt_size e) I.ok.above))).trans e1⟩
    · by_cases hj : j = i
      · subst hj
        rw [hi] at e1; cases e1
        rw [List.getElem?_set_self hiσ] at e2
        cases e2
        exact ⟨u, r, .inl ⟨hk, by simp⟩⟩
      · rw [List.getElem?_set_ne (Ne.symm hj)] at e2
        obtain ⟨u', r', q⟩ := hl j y v' e1 e2 e3
        refine ⟨u', r', ?_⟩
        rcases q with ⟨k, e⟩ | ⟨k, c, e, z⟩
        · refine .inl ⟨k, ?_⟩
          have : y ≠ x := fun e => hj (nodup_ix hN e1 (e ▸ hi))
          simp [this, e]
        · exact .inr ⟨k, c, e, z.sameBut hs (cne y c e)⟩
    · obtain ⟨w', z⟩ := I.cell y c e
      exact ⟨w', z.sameBut hs (cne y c e)⟩
    · obtain ⟨e, n, ne, nf, d⟩ := I.pin p hp
      exact ⟨(hs.2 p.1 ne).trans e, n, ne, nf, d⟩
  · have hfn : X.fn x = true := by
      rcases hf with z | z
      · exact z
      · rw [z] at hk; cases hk
    obtain ⟨c, hc⟩ := I.ok.has x (.inl hk)
    obtain ⟨w', z⟩ := I.cell x c hc
    refine wpAny_storeName_cell I.ok.kind hk hc z (fun h' hc' hs => ?_)
    obtain ⟨oc, hoc, hocd⟩ := id z
    refine h { s with heap := h' } ⟨I.ok, I.os, I.bare, ⟨fun b o e n hb hx => ?_, fun b o e n hb hx => ?_, I.base.free, fun b o e hx => ?_, I.base.tups, I.base.frzs, I.base.tbls⟩, ⟨m, hn.sameBut hs (Ne.symm (cne x c hc)), fun j y v' e1 e2 e3 => ?_⟩, fun y c' e => ?_, I.free, I.freeC, fun p hp => ?_, tracked ⟨oc, hoc, I.freeC x c hc⟩ hs, by simpa using I.len⟩ ⟨c, hs, .inr hc⟩
    · exact (hs.2 b (Nat.ne_of_lt (Nat.lt_of_lt_of_le (Heap.lt_size e) (I.ok.cab x c hfn hc)))).trans (I.base.keep b o e n hb hx)
    · obtain ⟨sl, e1⟩ := I.base.slot b o e n hb hx
      exact ⟨sl, (hs.2 b (Nat.ne_of_lt (Nat.lt_of_lt_of_le (Heap.lt_size e) (I.ok.cab x c hfn hc)))).trans e1⟩
    · obtain ⟨o', e1⟩ := I.base.there b o e hx
      exact ⟨o', (hs.2 b (Nat.ne_of_lt (Nat.lt_of_lt_of_le (Heap.lt_size e) (I.ok.cab x c hfn hc)))).trans e1⟩
    · by_cases hj : j = i
      · subst hj
        rw [hi] at e1; cases e1
        rw [List.getElem?_set_self hiσ] at e2
        cases e2
        exact ⟨u, r, .inr ⟨.inl hk, c, hc, hc'⟩⟩
      · rw [List.getElem?_set_ne (Ne.symm hj)] at e2
        obtain ⟨u', r', q⟩ := hl j y v' e1 e2 e3
        refine ⟨u', r', ?_⟩
        rcases q with q | ⟨k, c', e, z'⟩
        · exact .inl q
        · refine .inr ⟨k, c', e, z'.sameBut hs ?_⟩
          rintro rfl
          exact hj (nodup_ix hN e1 (I.ok.inj _ _ _ e hc ▸ hi))
    · by_cases hcc : c' = c
      · subst hcc; exact ⟨_, hc'⟩
      · obtain ⟨w2, z2⟩ := I.cell y c' e
        exact ⟨w2, z2.sameBut hs hcc⟩
    · obtain ⟨e, n, ne, nf, d⟩ := I.pin p hp
      refine ⟨(hs.2 p.1 ?_).trans e, n, ne, nf, d⟩
      intro q
      rw [q, hoc] at e
      have q' : oc = p.2 := Option.some.inj e
      exact d w' (by rw [<- q']; exact hocd)
theorem store_ok {M : Model} {A : Around} {E : Value -> Shared -> Prop} {i : Nat} {x : Str} {v : V} {u : Value} {Q : Unit -> Shared -> Prop} (I : Inv X pins σ H s) (hN : X.N.Nodup) (hi : X.N[i]? = some x) (hx : Loc X.env.scope x) (r : zae v u)
    (h : ∀ s', Inv X pins (σ.set i (some v)) H s' -> Q () s') (hf : X.fn x = true \/ X.env.scope.names.lookup x = some .local := by first | exact .inl rfl | exact .inr rfl | assumption) : wpAny M A (storeName X.env x u) Q E s :=
  store_ok2 I hN hi hx r (fun s' I' _ => h s' I') hf
theorem Inv.call' {s' : Shared} {ch : List Addr} (I : Inv X pins σ H s) (ho : s'.os = s.os) (u : Un (frs X.stack) ch H H' s.heap s'.heap) (hok : HOk X.prog X.w H' s'.heap) (hg : AllBare s'.gens)
    (hch : ∀ b ∈ ch, (b ∈ X.ex \/ X.s₀.heap.objs.size <= b) /\ b ≠ X.env.locals /\ (∀ x c, X.env.cells.lookup x = some c -> c ≠ b) /\ ∀ p ∈ X.pn ++ pins, p.1 ≠ b) : Inv X pins σ H' s' := by
  obtain ⟨h', g', d', t', o'⟩ := s'
  have e : o' = s.os := ho
  subst e
  exact I.call (g' := g') (t' := t') (d' := d') u hok hg hch
end
abbrev XK := Value -> Option Addr -> Hp -> Prop
abbrev St := List (Option V)
abbrev VK := V -> Hp -> Prop
abbrev TE := St -> Hp -> VK -> Prop
abbrev TT := St -> Hp -> (Bool -> Hp -> Prop) -> Prop
abbrev TA := St -> Hp -> (List V -> Hp -> Prop) -> Prop
structure Ends where
  nx : St -> Hp -> Prop
  rt : VK
  bk : St -> Hp -> Prop := fun _ _ => False
  ct : St -> Hp -> Prop := fun _ _ => False
abbrev TS := Ends -> St -> Hp -> Prop
def EP (X : Cx) (pins : List (Addr × Obj)) (σ : St) (Q : VK) (u : Value) (s' : Shared) : Prop := ∃ v H', Inv X pins σ H' s' /\ zae v u /\ Q v H'
def TP (X : Cx) (pins : List (Addr × Obj)) (σ : St) (Q : Bool -> Hp -> Prop) (b : Bool) (s' : Shared) : Prop := ∃ H', Inv X pins σ H' s' /\ Q b H'
def AP (X : Cx) (pins : List (Addr × Obj)) (σ : St) (Q : List V -> Hp -> Prop) (us : List Value) (s' : Shared) : Prop := ∃ vs H', Inv X pins σ H' s' /\ zag vs us /\ Q vs H'
def SP (X : Cx) (pins : List (Addr × Obj)) (D : Ends) (f : Flow) (s' : Shared) : Prop :=
  match f with
  | .next => ∃ σ' H', Inv X pins σ' H' s' /\ D.nx σ' H'
  | .brk => ∃ σ' H', Inv X pins σ' H' s' /\ D.bk σ' H'
  | .cont => ∃ σ' H', Inv X pins σ' H' s' /\ D.ct σ' H'
  | .ret u => ∃ v σ' H', Inv X pins σ' H' s' /\ zae v u /\ D.rt v H'
def PE (X : Cx) (e : Expr) (t : TE) : Prop :=
  ∀ (pins : List (Addr × Obj)) (s : Shared) (σ : St) (H : Hp) (Q : VK), Inv X pins σ H s -> t σ H Q -> wpAny (model X.prog X.w) X.A (eval e X.env) (EP X pins σ Q) X.xe s
def PT (X : Cx) (e : Expr) (t : TT) : Prop :=
  ∀ (pins : List (Addr × Obj)) (s : Shared) (σ : St) (H : Hp) (Q : Bool -> Hp -> Prop), Inv X pins σ H s -> t σ H Q -> wpAny (model X.prog X.w) X.A (isTrue e X.env (eval e X.env)) (TP X pins σ Q) X.xe s
def PW (X : Cx) (e : Expr) (t : TT) : Prop :=
  ∀ (whole : Sem Value) (pins : List (Addr × Obj)) (s : Shared) (σ : St) (H : Hp) (Q : Bool -> Hp -> Prop), Inv X pins σ H s -> t σ H Q -> wpAny (model X.prog X.w) X.A (isTrue e X.env whole) (TP X pins σ Q) X.xe s
theorem PW.pt {X : Cx} {e : Expr} {t : TT} (h : PW X e t) : PT X e t := h _
def PA (X : Cx) (es : List Expr) (t : TA) : Prop :=
  ∀ (pos : Pos) (pins : List (Addr × Obj)) (s : Shared) (σ : St) (H : Hp) (Q : List V -> Hp -> Prop), Inv X pins σ H s -> t σ H Q -> wpAny (model X.prog X.w) X.A (spliced (backTo pos (starEach es X.env))) (AP X pins σ Q) X.xe s
def PS (X : Cx) (st : Stmt) (t : TS) : Prop :=
  ∀ (pins : List (Addr × Obj)) (s : Shared) (σ : St) (H : Hp) (D : Ends), Inv X pins σ H s -> t D σ H -> wpAny (model X.prog X.w) X.A (exec st X.env) (SP X pins D) X.xe s
def PSs (X : Cx) (st : List Stmt) (t : TS) : Prop :=
  ∀ (pins : List (Addr × Obj)) (s : Shared) (σ : St) (H : Hp) (D : Ends), Inv X pins σ H s -> t D σ H -> wpAny (model X.prog X.w) X.A (execs st X.env) (SP X pins D) X.xe s
theorem thn {α : Type} {t : Sem α} {Q Q' : α -> Shared -> Prop} {M : Model} {A : Around} {E : Value -> Shared -> Prop} {s : Shared} (h : wpAny M A t Q E s) (hQ : ∀ a s, Q a s -> Q' a s) : wpAny M A t Q' E s := wpAny_mono h hQ fun _ _ x => x
end L2
namespace L2
open PySem PySem.Spec PyProof.Rows
section
variable {X : Cx}
theorem bin {a b : Expr} {ta tb : TE} (ha : PE X a ta) (hb : PE X b tb) {pins : List (Addr × Obj)} {s : Shared} {σ : St} {H : Hp} {R : V -> V -> Hp -> Prop} (I : Inv X pins σ H s) (h : ta σ H fun x H1 => tb σ H1 fun y H2 => R x y H2)
    {α : Type} {Q : α -> Shared -> Prop} {f : Value -> Value -> Sem α}
    (hf : ∀ v u s2 x y H2, Inv X pins σ H2 s2 -> zae x v -> zae y u -> R x y H2 -> wpAny (model X.prog X.w) X.A (f v u) Q X.xe s2) :
    wpAny (model X.prog X.w) X.A (eval a X.env) (fun v s₁ => wpAny (model X.prog X.w) X.A (eval b X.env) (fun u s₂ => wpAny (model X.prog X.w) X.A (f v u) Q X.xe s₂) X.xe s₁) X.xe s := by
  refine thn (ha pins s σ H _ I h) fun v s1 ⟨x, H1, I1, r1, q1⟩ => ?_
  refine thn (hb pins s1 σ H1 _ I1 q1) fun u s2 ⟨y, H2, I2, r2, q2⟩ => ?_
  exact hf v u s2 x y H2 I2 r1 r2 q2
def tVar (i : Nat) : TE := fun σ H Q => ∃ v, σ[i]? = some (some v) /\ Q v H
def tC (v : V) : TE := fun _ H Q => Q v H
theorem pe_var {i : Nat} {x : Str} {pos : Pos} (hN : X.N[i]? = some x) (hv : Vis X.env.scope x) (hd : (x == ("__debug__" : Str)) = false := by decide) (hcd : (x == ("__classdict__" : Str)) = false := by decide) : PE X (.Name x pos) (tVar i) := by
  intro pins s σ H Q I h
  obtain ⟨v, e, h⟩ := h
  obtain ⟨m, hn, hl⟩ := I.loc
  obtain ⟨u, r, l⟩ := hl i x v hN e hv
  have fin : EP X pins σ Q u s := ⟨v, H, I, r, h⟩
  rcases l with ⟨hk, hm⟩ | ⟨hk, c, hc, hcell⟩
  · exact wpAny_Name (wpAny_loadName_local I.ok.kind hk hn hm fin) hd
  · rcases hk with hk | hk
    · exact wpAny_Name (wpAny_loadName_cell I.ok.kind hk hc hcell fin) hd
    · exact wpAny_Name (wpAny_loadName_free I.ok.kind hk hc hcell fin hcd) hd
theorem pe_int {i j pos} : PE X (.Constant (.int i) j pos) (tC (.int i)) := fun _ _ _ H _ I h => wpAny_Constant_int ⟨.int i, H, I.tok _, ⟨_, rfl⟩, h⟩
theorem pe_bl {b j pos} : PE X (.Constant (.bool b) j pos) (tC (.bl b)) := fun _ _ _ H _ I h => Constant_bool ⟨.bl b, H, I, rfl, h⟩
theorem pe_non {j pos} : PE X (.Constant .none j pos) (tC .non) := fun _ _ _ H _ I h => Constant_none ⟨.non, H, I, rfl, h⟩
theorem pe_str {x j pos} : PE X (.Constant (.str x) j pos) (tC (.str x)) := fun _ _ _ H _ I h => Calls.Constant_str ⟨.str x, H, I.tok _, ⟨_, rfl⟩, h⟩
def Gl (X : Cx) (x : Str) : Prop := X.env.kindOf x = some .globalImplicit
theorem ld_glob {E : Value -> Shared -> Prop} {pins : List (Addr × Obj)} {s : Shared} {σ : St} {H : Hp} {x : Str} {u : Value} {pos : Pos} {Q : Value -> Shared -> Prop} (I : Inv X pins σ H s) (hg : Gl X x) (hm : X.mg x = some u) (h : Q u s)
    (hd : (x == ("__debug__" : Str)) = false := by decide) : wpAny (model X.prog X.w) X.A (eval (.Name x pos) X.env) Q E s :=
  Calls.Name_function_global I.ok.kind hg (Calls.loadGlobal_global (by rw [I.ok.glob]; exact I.mod.glob.keeps I.bk) hm h) hd
theorem ld_blt {E : Value -> Shared -> Prop} {pins : List (Addr × Obj)} {s : Shared} {σ : St} {H : Hp} {x : Str} {u : Value} {pos : Pos} {Q : Value -> Shared -> Prop} (I : Inv X pins σ H s) (hg : Gl X x) (hm : X.mg x = none) (hv : bootBuiltins x = some u) (h : Q u s)
    (hn : x ≠ "__name__" := by decide) (hd : (x == ("__debug__" : Str)) = false := by decide) : wpAny (model X.prog X.w) X.A (eval (.Name x pos) X.env) Q E s := by
  obtain ⟨mb, h1, h2⟩ := I.mod.blt
  exact Calls.Name_function_global I.ok.kind hg (Calls.loadGlobal_builtin (by rw [I.ok.glob]; exact I.mod.glob.keeps I.bk) hm (by rw [I.ok.blt]; exact h1.keeps I.bk) ((h2 x hn).trans hv) h) hd
theorem pe_glob {x : Str} {v : V} {u : Value} {pos : Pos} (hg : Gl X x) (hm : X.mg x = some u) (r : zae v u) (hd : (x == ("__debug__" : Str)) = false := by decide) : PE X (.Name x pos) (tC v) :=
  fun _ _ _ H _ I h => ld_glob I hg hm ⟨v, H, I, r, h⟩ hd
theorem pe_bltn {x : Str} {v : V} {u : Value} {pos : Pos} (hg : Gl X x) (hm : X.mg x = none) (hv : bootBuiltins x = some u) (r : zae v u) (hn : x ≠ "__name__" := by decide) (hd : (x == ("__debug__" : Str)) = false := by decide) : PE X (.Name x pos) (tC v) :=
  fun _ _ _ H _ I h => ld_blt I hg hm hv ⟨v, H, I, r, h⟩ hn hd
variable {a b : Expr} {ta tb : TE} {pos : Pos}
def PC (X : Cx) (op : CmpOp) (a b : Expr) (t : TE) : Prop :=
  ∀ (pins : List (Addr × Obj)) (s : Shared) (σ : St) (H : Hp) (Q : VK), Inv X pins σ H s -> t σ H Q ->
    wpAny (model X.prog X.w) X.A (eval a X.env) (fun v s₁ => wpAny (model X.prog X.w) X.A (eval b X.env) (fun u s₂ => wpAny (model X.prog X.w) X.A (compareOp op v u) (EP X pins σ Q) X.xe s₂) X.xe s₁) X.xe s
theorem nobehind (b : Expr) {op : CmpOp} (h : op ≠ .In) (h2 : op ≠ .NotIn) : behindInMarks op b = false := by
  have e1 : (op == CmpOp.In) = false := by cases op <;> first | rfl | exact absurd rfl h
  have e2 : (op == CmpOp.NotIn) = false := by cases op <;> first | rfl | exact absurd rfl h2
  cases b <;> simp [behindInMarks, e1, e2]
def tB (t : TE) : TT := fun σ H Q => t σ H fun x H1 => ∃ c, x = .bl c /\ Q c H1
theorem pt_cmp {op : CmpOp} {t : TE} (h : PC X op a b t) (h1 : behindInMarks op b = false := by first | exact nobehind _ (by decide) (by decide) | rfl) : PT X (.Compare a [op] [b] pos) (tB t) := by
  intro pins s σ H Q I hw
  refine wpAny_isTrue_Compare1 (thn (h pins s σ H _ I hw) fun v s1 h1 => thn h1 fun u s2 h2 => thn h2 fun c s3 ⟨x, H1, I1, r1, q1⟩ => ?_) h1
  obtain ⟨d, rfl, q⟩ := q1
  cases r1
  exact wpAny_truthy_bool ⟨H1, I1, q⟩
theorem pt_val {e : Expr} {t : TE} (h : PE X e t) (he : ∀ whole, isTrue e X.env whole = (do let v <- whole; standAt e.pos; holding [v] (truthy v)) := by intro _; rfl) : PT X e (tB t) := by
  intro pins s σ H Q I hw
  refine isTrue_plain (thn (h pins s σ H _ I hw) fun v s1 ⟨x, H1, I1, r1, q1⟩ => ?_) (he _)
  obtain ⟨d, rfl, q⟩ := q1
  cases r1
  exact wpAny_truthy_bool ⟨H1, I1, q⟩
variable {tA tB' : TT} {rest : List Expr}
def tAnd (t u : TT) : TT := fun σ H Q => t σ H fun c H1 => if c = true then u σ H1 Q else Q false H1
def tOr (t u : TT) : TT := fun σ H Q => t σ H fun c H1 => if c = true then Q true H1 else u σ H1 Q
def tNot (t : TT) : TT := fun σ H Q => t σ H fun c H1 => Q (!c) H1
theorem pw_and1 (ha : PT X a tA) : PW X (.BoolOp .And [a] pos) tA := by
  intro wh pins s σ H Q I h
  refine isTrue_and (thn (ha pins s σ H Q I h) fun c s1 e => ?_)
  cases c with
  | true => exact isTrue_and_nil e
  | false => exact e
theorem pw_or1 (ha : PT X a tA) : PW X (.BoolOp .Or [a] pos) tA := by
  intro wh pins s σ H Q I h
  refine isTrue_or (thn (ha pins s σ H Q I h) fun c s1 e => ?_)
  cases c with
  | false => exact isTrue_or_nil e
  | true => exact e
theorem pw_and (ha : PT X a tA) (hb : PW X (.BoolOp .And (b :: rest) pos) tB') : PW X (.BoolOp .And (a :: b :: rest) pos) (tAnd tA tB') := by
  intro wh pins s σ H Q I h
  refine isTrue_and (thn (ha pins s σ H _ I h) fun c s1 ⟨H1, I1, q1⟩ => ?_)
  cases c with
  | true => exact hb wh pins s1 σ H1 Q I1 q1
  | false => exact ⟨H1, I1, q1⟩
theorem pw_or (ha : PT X a tA) (hb : PW X (.BoolOp .Or (b :: rest) pos) tB') : PW X (.BoolOp .Or (a :: b :: rest) pos) (tOr tA tB') := by
  intro wh pins s σ H Q I h
  refine isTrue_or (thn (ha pins s σ H _ I h) fun c s1 ⟨H1, I1, q1⟩ => ?_)
  cases c with
  | true => exact ⟨H1, I1, q1⟩
  | false => exact hb wh pins s1 σ H1 Q I1 q1
theorem pt_not (ha : PT X a tA) : PT X (.UnaryOp .Not a pos) (tNot tA) := by
  intro pins s σ H Q I h
  exact isTrue_not (ha pins s σ H (fun c H1 => Q (!c) H1) I h)
def tAndV (ta tb : TE) : TE := fun σ H Q => ta σ H fun x H1 => ∃ c, x = .bl c /\ if c = true then tb σ H1 Q else Q (.bl false) H1
def tOrV (ta tb : TE) : TE := fun σ H Q => ta σ H fun x H1 => ∃ c, x = .bl c /\ if c = true then Q (.bl true) H1 else tb σ H1 Q
def tNotV (ta : TE) : TE := fun σ H Q => ta σ H fun x H1 => ∃ c, x = .bl c /\ Q (.bl (!c)) H1
theorem pe_one {op} {t : TE} (h : PE X a t) : PE X (.BoolOp op [a] pos) t := fun pins s σ H Q I hw => BoolOp_one (h pins s σ H Q I hw)
theorem pe_and (ha : PE X a ta) (hb : PE X (.BoolOp .And (b :: rest) pos) tb) : PE X (.BoolOp .And (a :: b :: rest) pos) (tAndV ta tb) := by
  intro pins s σ H Q I h
  refine BoolOp_and (thn (ha pins s σ H _ I h) fun v s1 ⟨x, H1, I1, r1, q1⟩ => ?_)
  obtain ⟨c, rfl, q1⟩ := q1
  cases r1
  refine wpAny_truthy_bool ?_
  cases c with
  | true => exact hb pins s1 σ H1 Q I1 q1
  | false => exact ⟨.bl false, H1, I1, rfl, q1⟩
theorem pe_or (ha : PE X a ta) (hb : PE X (.BoolOp .Or (b :: rest) pos) tb) : PE X (.BoolOp .Or (a :: b :: rest) pos) (tOrV ta tb) := by
  intro pins s σ H Q I h
  refine BoolOp_or (thn (ha pins s σ H _ I h) fun v s1 ⟨x, H1, I1, r1, q1⟩ => ?_)
  obtain ⟨c, rfl, q1⟩ := q1
  cases r1
  refine wpAny_truthy_bool ?_
  cases c with
  | false => exact hb pins s1 σ H1 Q I1 q1
  | true => exact ⟨.bl true, H1, I1, rfl, q1⟩
theorem pe_not (ha : PE X a ta) : PE X (.UnaryOp .Not a pos) (tNotV ta) := by
  intro pins s σ H Q I h
  refine UnaryOp_ (thn (ha pins s σ H _ I h) fun v s1 ⟨x, H1, I1, r1, q1⟩ => ?_)
  obtain ⟨c, rfl, q1⟩ := q1
  cases r1
  exact not_of (wpAny_truthy_bool ⟨.bl (!c), H1, I1, rfl, q1⟩)
def tIf (t : TT) (ta tb : TE) : TE := fun σ H Q => t σ H fun c H1 => if c = true then ta σ H1 Q else tb σ H1 Q
theorem pe_ifExp {c : Expr} (hc : PT X c tA) (ha : PE X a ta) (hb : PE X b tb) : PE X (.IfExp c a b pos) (tIf tA ta tb) := by
  intro pins s σ H Q I h
  refine wpAny_IfExp (thn (hc pins s σ H _ I h) fun d s1 ⟨H1, I1, q1⟩ => ?_)
  cases d with
  | true => exact ha pins s1 σ H1 Q I1 q1
  | false => exact hb pins s1 σ H1 Q I1 q1
end
end L2
namespace L2
open PySem PySem.Spec PyProof.Rows
def SqL (K : PySem.W.Frag) (H : Hp) (a : Addr) (xs : List V) : Prop :=
  Rd H a (.lst xs) \/
    ∃ (o : Obj) (its : Array Value) (n : Nat), K.lookup a = some o /\ o.cls = .type "list" /\ o.dict = none /\ o.data = .seq its n /\ its.size <= sizeLine /\ zag xs its.toList
def SqT (K : PySem.W.Frag) (H : Hp) (a : Addr) (xs : List V) : Prop :=
  Rd H a (.tup xs) \/
    ∃ (o : Obj) (its : Array Value) (n : Nat), K.lookup a = some o /\ o.cls = .type "tuple" /\ o.data = .seq its n /\ its.size <= sizeLine /\ zag xs its.toList
def absV : Value -> Option V
  | .none => some .non
  | .bool b => some (.bl b)
  | .int i _ => some (.int i)
  | .str x _ => some (.str x)
  | .bytes b _ => some (.byt b)
  | .float b _ => some (.flt b)
  | .ref a => some (.ref a)
  | .type n => some (.ty n)
  | _ => none
theorem zae.abs {x : V} {u : Value} (r : zae x u) : absV u = some x := by
  cases x with
  | non => cases r; rfl
  | bl _ => cases r; rfl
  | int _ => obtain ⟨t, rfl⟩ := r; rfl
  | str _ => obtain ⟨t, rfl⟩ := r; rfl
  | byt _ => obtain ⟨t, rfl⟩ := r; rfl
  | flt _ => obtain ⟨t, rfl⟩ := r; rfl
  | ref _ => cases r; rfl
  | ty _ => cases r; rfl
theorem zae.inj {x y : V} {u : Value} (r : zae x u) (q : zae y u) : x = y := Option.some.inj (r.abs.symm.trans q.abs)
theorem zag.inj : ∀ {xs ys : List V} {us : List Value}, zag xs us -> zag ys us -> xs = ys
  | _, _, _, .nil, .nil => rfl
  | _, _, _, .cons r t, .cons r' t' => by rw [r.inj r', zag.inj t t']
section
variable {X : Cx} {pins : List (Addr × Obj)} {σ : St} {H : Hp} {s : Shared} {a : Addr} {xs ys : List V}
theorem SqL.of {K : PySem.W.Frag} (h : H a = some (.lst xs)) : SqL K H a xs := .inl (.inl h)
theorem SqT.of {K : PySem.W.Frag} (h : H a = some (.tup xs)) : SqT K H a xs := .inl (.inl h)
theorem Inv.list (I : Inv X pins σ H s) (h : SqL X.K H a xs) : ∃ its : List Value, zag xs its /\ PlainL s.heap a its.toArray /\ xs.length <= sizeLine := by
  rcases h with h | ⟨o, its, n, hk, hc, hd, hs, hz, r⟩
  · obtain ⟨z, its, n, r, e⟩ := h.ok I.hok
    exact ⟨its, r, ⟨_, n, e, rfl, rfl, rfl⟩, z⟩
  · refine ⟨its.toList, r, ⟨o, n, I.kIn a o hk, hc, hd, by simpa using hs⟩, ?_⟩
    have e := r.length
    simp only [Array.length_toList] at e
    omega
theorem Inv.tuple (I : Inv X pins σ H s) (h : SqT X.K H a xs) : ∃ its : List Value, zag xs its /\ IsTup s.heap a its.toArray /\ xs.length <= sizeLine := by
  rcases h with h | ⟨o, its, n, hk, hc, hs, hz, r⟩
  · obtain ⟨z, its, r, p⟩ := h.ok I.hok
    exact ⟨its, r, p, z⟩
  · refine ⟨its.toList, r, ⟨o, I.kIn a o hk, hc, n, by simpa using hs⟩, ?_⟩
    have e := r.length
    simp only [Array.length_toList] at e
    omega
theorem Inv.list_inj (I : Inv X pins σ H s) (h : SqL X.K H a xs) (h' : SqL X.K H a ys) : xs = ys := by
  obtain ⟨its, r, ⟨o, n, e, _, _, d⟩, _⟩ := I.list h
  obtain ⟨its', r', ⟨o', n', e', _, _, d'⟩, _⟩ := I.list h'
  rw [e] at e'; cases e'
  rw [d] at d'
  injection d' with d1 _
  have : its = its' := by simpa using congrArg Array.toList d1
  subst this
  exact r.inj r'
theorem Inv.tuple_inj (I : Inv X pins σ H s) (h : SqT X.K H a xs) (h' : SqT X.K H a ys) : xs = ys := by
  obtain ⟨its, r, ⟨o, e, _, n, d⟩, _⟩ := I.tuple h
  obtain ⟨its', r', ⟨o', e', _, n', d'⟩, _⟩ := I.tuple h'
  rw [e] at e'; cases e'
  rw [d] at d'
  injection d' with d1 _
  have : its = its' := by simpa using congrArg Array.toList d1
  subst this
  exact r.inj r'
end
abbrev Cx.wish (X : Cx) (E : Value -> Shared -> Prop) : Cx := { X with xe := E }
abbrev Cx.nox (X : Cx) : Cx := X.wish fun _ _ => False
theorem Cx.Ok.wish {X : Cx} (ok : X.Ok) (E : Value -> Shared -> Prop) : (X.wish E).Ok :=
  ⟨ok.mod, ok.kind, ok.glob, ok.blt, ok.above, ok.inj, ok.has, ok.cab, ok.hd, ok.frames, ok.stk, ok.exf, ok.bs, ok.bsz, ok.noex, ok.exfs, ok.funs, ok.frf⟩
theorem Cx.Ok.unwish {X : Cx} {E : Value -> Shared -> Prop} (ok : (X.wish E).Ok) : X.Ok :=
  ⟨ok.mod, ok.kind, ok.glob, ok.blt, ok.above, ok.inj, ok.has, ok.cab, ok.hd, ok.frames, ok.stk, ok.exf, ok.bs, ok.bsz, ok.noex, ok.exfs, ok.funs, ok.frf⟩
section
variable {X : Cx} {pins : List (Addr × Obj)} {σ : St} {H : Hp} {s : Shared} {E : Value -> Shared -> Prop}
theorem Inv.wish (I : Inv X pins σ H s) (E : Value -> Shared -> Prop) : Inv (X.wish E) pins σ H s := ⟨I.ok.wish E, I.os, I.bare, I.base, I.loc, I.cell, I.free, I.freeC, I.pin, I.hok, I.len⟩
theorem Inv.unwish (I : Inv (X.wish E) pins σ H s) : Inv X pins σ H s := ⟨I.ok.unwish, I.os, I.bare, I.base, I.loc, I.cell, I.free, I.freeC, I.pin, I.hok, I.len⟩
theorem SP.unwish {D : Ends} {f : Flow} {s' : Shared} (h : SP (X.wish E) pins D f s') : SP X pins D f s' := by
  cases f with
  | next => obtain ⟨σ', H', I, q⟩ := h; exact ⟨σ', H', I.unwish, q⟩
  | brk => obtain ⟨σ', H', I, q⟩ := h; exact ⟨σ', H', I.unwish, q⟩
  | cont => obtain ⟨σ', H', I, q⟩ := h; exact ⟨σ', H', I.unwish, q⟩
  | ret u => obtain ⟨v, σ', H', I, r, q⟩ := h; exact ⟨v, σ', H', I.unwish, r, q⟩
theorem PE.nox {e : Expr} {t : TE} (h : PE X.nox e t) : PE X e t := fun pins s σ H Q I hw =>
  wpAny_mono (h pins s σ H Q (I.wish _) hw) (fun _ _ ⟨v, H', I', r, q⟩ => ⟨v, H', I'.unwish, r, q⟩) fun _ _ z => False.elim z
theorem PT.nox {e : Expr} {t : TT} (h : PT X.nox e t) : PT X e t := fun pins s σ H Q I hw =>
  wpAny_mono (h pins s σ H Q (I.wish _) hw) (fun _ _ ⟨H', I', q⟩ => ⟨H', I'.unwish, q⟩) fun _ _ z => False.elim z
theorem PSs.nox {st : List Stmt} {t : TS} (h : PSs X.nox st t) : PSs X st t := fun pins s σ H D I hw =>
  wpAny_mono (h pins s σ H D (I.wish _) hw) (fun _ _ q => q.unwish) fun _ _ z => False.elim z
end
section
variable {X : Cx} {st : Stmt} {rest : List Stmt} {t u : TS} {e : Expr} {te : TE} {pos : Pos}
def tNext : TS := fun D σ H => D.nx σ H
def tSeq (t u : TS) : TS := fun D σ H => t { D with nx := u D } σ H
theorem pss_nil : PSs X [] tNext := fun _ _ σ H _ I h => wpAny_execs_nil ⟨σ, H, I, h⟩
theorem pss_cons (h1 : PS X st t) (h2 : PSs X rest u) : PSs X (st :: rest) (tSeq t u) := by
  intro pins s σ H D I h
  refine wpAny_execs_cons (thn (h1 pins s σ H { D with nx := u D } I h) fun f s1 q => ?_)
  cases f with
  | next =>
    obtain ⟨σ', H', I', q⟩ := q
    exact h2 pins s1 σ' H' D I' q
  | ret v => exact q
  | brk => exact q
  | cont => exact q
theorem pss_one (h1 : PS X st t) : PSs X [st] t := by
  intro pins s σ H D I h
  refine wpAny_execs_cons (thn (h1 pins s σ H D I h) fun f s1 q => ?_)
  cases f with
  | next => exact wpAny_execs_nil q
  | ret v => exact q
  | brk => exact q
  | cont => exact q
theorem Inv.quiet {pins : List (Addr × Obj)} {σ : St} {H : Hp} {s : Shared} (I : Inv X pins σ H s) : interactive X.env = false := by simp [interactive, I.ok.kind]
def tDrop (te : TE) : TS := fun D σ H => te σ H fun _ H1 => D.nx σ H1
theorem ps_expr (he : PE X e te) (hs : swapsWith e none pos.line X.env = pure false := by rfl) : PS X (.Expr e pos) (tDrop te) := by
  intro pins s σ H D I h
  exact wpAny_Expr_any (thn (he pins s σ H _ I h) fun v s1 ⟨x, H1, I1, r1, q1⟩ => ⟨σ, H1, I1, q1⟩) I.quiet hs
def tRet (te : TE) : TS := fun D σ H => te σ H D.rt
theorem ps_ret (he : PE X e te) : PS X (.Return (some e) pos) (tRet te) := by
  intro pins s σ H D I h
  exact wpAny_Return_some (thn (he pins s σ H _ I h) fun v s1 ⟨x, H1, I1, r1, q1⟩ => ⟨x, σ, H1, I1, r1, q1⟩)
def tIfS (c : TT) (t u : TS) : TS := fun D σ H => c σ H fun b H1 => if b = true then t D σ H1 else u D σ H1
theorem ps_if {c : Expr} {a b : List Stmt} {tc : TT} (hc : PT X c tc) (ha : PSs X a t) (hb : PSs X b u) : PS X (.If c a b pos) (tIfS tc t u) := by
  intro pins s σ H D I h
  refine wpAny_If (thn (hc pins s σ H _ I h) fun d s1 ⟨H1, I1, q1⟩ => ?_)
  cases d with
  | true => exact ha pins s1 σ H1 D I1 q1
  | false => exact hb pins s1 σ H1 D I1 q1
end
abbrev TG := V -> St -> Hp -> (St -> Hp -> Prop) -> Prop
abbrev TGs := List V -> St -> Hp -> (St -> Hp -> Prop) -> Prop
def PG (X : Cx) (target : Expr) (t : TG) : Prop :=
  ∀ (pins : List (Addr × Obj)) (s : Shared) (σ : St) (H : Hp) (v : V) (u : Value) (Q : St -> Hp -> Prop), Inv X pins σ H s -> zae v u -> t v σ H Q ->
    wpAny (model X.prog X.w) X.A (assign target X.env u) (fun _ s' => ∃ σ' H', Inv X pins σ' H' s' /\ Q σ' H') X.xe s
def PGs (X : Cx) (ts : List Expr) (t : TGs) : Prop :=
  ∀ (pins : List (Addr × Obj)) (s : Shared) (σ : St) (H : Hp) (vs : List V) (us : List Value) (Q : St -> Hp -> Prop), Inv X pins σ H s -> zag vs us -> t vs σ H Q ->
    wpAny (model X.prog X.w) X.A (assignInOrder ((assignEach ts X.env).map (·.2)) us) (fun _ s' => ∃ σ' H', Inv X pins σ' H' s' /\ Q σ' H') X.xe s
abbrev TSet := V -> V -> V -> Hp -> (Hp -> Prop) -> Prop
def PSet (X : Cx) (t : TSet) : Prop :=
  ∀ (pins : List (Addr × Obj)) (s : Shared) (σ : St) (H : Hp) (o i v : V) (ov iv u : Value) (Q : Hp -> Prop), Inv X pins σ H s -> zae o ov -> zae i iv -> zae v u -> t o i v H Q ->
    wpAny (model X.prog X.w) X.A (setItem ov iv u) (fun _ s' => ∃ H', Inv X pins σ H' s' /\ Q H') X.xe s
abbrev TIp := V -> V -> Hp -> VK -> Prop
def PIp (X : Cx) (op : Operator) (t : TIp) : Prop :=
  ∀ (pins : List (Addr × Obj)) (s : Shared) (σ : St) (H : Hp) (x y : V) (v u : Value) (Q : VK), Inv X pins σ H s -> zae x v -> zae y u -> t x y H Q ->
    wpAny (model X.prog X.w) X.A (inplaceOp op v u) (EP X pins σ Q) X.xe s
section
variable {X : Cx} {pos : Pos}
def gName (i : Nat) : TG := fun v σ H Q => Q (σ.set i (some v)) H
theorem pg_name {i : Nat} {x : Str} (hN : X.N.Nodup) (hi : X.N[i]? = some x) (hx : Loc X.env.scope x) (hf : X.fn x = true \/ X.env.scope.names.lookup x = some .local := by first | exact .inl rfl | exact .inr rfl | assumption) : PG X (.Name x pos) (gName i) := by
  intro pins s σ H v u Q I r h
  exact wpAny_assign_Name (store_ok I hN hi hx r (fun s' I' => ⟨_, H, I', h⟩) hf)
def gNil : TGs := fun vs σ H Q => vs = [] /\ Q σ H
def gCons (t : TG) (u : TGs) : TGs := fun vs σ H Q => ∃ v r, vs = v :: r /\ t v σ H fun σ' H' => u r σ' H' Q
theorem pgs_nil : PGs X [] gNil := by
  intro pins s σ H vs us Q I r h
  obtain ⟨e, h⟩ := h
  subst e
  cases r
  exact assignInOrder_nil ⟨σ, H, I, h⟩
theorem pgs_cons {e : Expr} {es : List Expr} {t : TG} {u : TGs} (h1 : PG X e t) (h2 : PGs X es u)
    (hs : (assignEach (e :: es) X.env).map (·.2) = assign e X.env :: (assignEach es X.env).map (·.2) := by rfl) : PGs X (e :: es) (gCons t u) := by
  intro pins s σ H vs us Q I r h
  obtain ⟨v, vr, e1, h⟩ := h
  subst e1
  cases r with
  | cons r rr =>
    rw [hs]
    refine assignInOrder_cons (thn (h1 pins s σ H _ _ _ I r h) fun _ s1 ⟨σ1, H1, I1, q1⟩ => ?_)
    exact h2 pins s1 σ1 H1 _ _ Q I1 rr q1
def gTup (K : PySem.W.Frag) (n : Nat) (t : TGs) : TG := fun v σ H Q => ∃ a xs, v = .ref a /\ SqT K H a xs /\ xs.length = n /\ t xs σ H Q
theorem pg_tup {es : List Expr} {k : Nat} {t : TGs} {n : Nat} (hc : X.calm = true) (h : PGs X es t)
    (hn : (assignEach es X.env).length = n := by rfl) (hst : (assignEach es X.env).findIdx? (·.1) = none := by rfl) : PG X (.Tuple es k pos) (gTup X.K n t) := by
  intro pins s σ H v u Q I r hw
  obtain ⟨a, xs, e1, hq, hl, hw⟩ := hw
  subst e1
  cases r
  obtain ⟨its, rv, ht, hz⟩ := I.tuple hq
  refine assign_Tuple_tuple (I.ok.hd hc) ht (by simp [hn, <- hl, rv.length]) hst fun h' hx => ?_
  have I1 : Inv X pins σ H { s with heap := h' } := I.kept (t' := s.toks) fun b o e => hx b o (Nat.ne_of_lt (Heap.lt_size e)) e
  exact h pins _ σ H xs _ Q I1 (by simpa using rv) hw
def gSub (to ti : TE) (t : TSet) : TG := fun v σ H Q => to σ H fun o H1 => ti σ H1 fun i H2 => t o i v H2 fun H3 => Q σ H3
theorem pg_sub {o i : Expr} {to ti : TE} {t : TSet} (ho : PE X o to) (hi : PE X i ti) (hs : PSet X t)
    (ha : ∀ v, assign (.Subscript o i pos) X.env v = (do
      let ov <- holding [v] (eval o X.env)
      let iv <- holding [v, ov] (eval i X.env)
      standAt pos
      holding [v, ov, iv] (setItem ov iv v)
      release [v, ov, iv] []) := by intro _; rfl) : PG X (.Subscript o i pos) (gSub to ti t) := by
  intro pins s σ H v u Q I r h
  rw [ha]
  refine wpAny_bind (wpAny_holding (thn (ho pins s σ H _ I h) fun ov s1 ⟨x, H1, I1, r1, q1⟩ => ?_))
  refine wpAny_bind (wpAny_holding (thn (hi pins s1 σ H1 _ I1 q1) fun iv s2 ⟨y, H2, I2, r2, q2⟩ => ?_))
  refine wpAny_bind (wpAny_standAt (wpAny_bind (wpAny_holding (thn (hs pins s2 σ H2 x y v ov iv u _ I2 r1 r2 r q2) fun _ s3 ⟨H3, I3, q3⟩ => ?_))))
  exact wpAny_release ⟨σ, H3, I3, q3⟩
def tAsg (te : TE) (g : TG) : TS := fun D σ H => te σ H fun x H1 => g x σ H1 D.nx
theorem ps_asg {tg e : Expr} {te : TE} {g : TG} (he : PE X e te) (hg : PG X tg g) (hs : swapsWithSole [tg] e pos.line X.env = pure false := by rfl) (hw : swappedStores [tg] e X.env = pure none := by rfl)
    (h1 : (assignEach [tg] X.env).map (·.2) = [assign tg X.env] := by rfl) : PS X (.Assign [tg] e pos) (tAsg te g) := by
  intro pins s σ H D I h
  refine wpAny_Assign_stores (thn (he pins s σ H _ I h) fun v s1 ⟨x, H1, I1, r1, q1⟩ => ?_) hs hw
  rw [h1]
  exact thn (hg pins s1 σ H1 x v _ I1 r1 q1) fun _ s2 q => q
theorem ps_set {i : Nat} {x : Str} {e : Expr} {te : TE} {pos' : Pos} (hN : X.N.Nodup) (hi : X.N[i]? = some x) (hx : Loc X.env.scope x) (he : PE X e te) (hs : swapsWith e (some (.Name x pos')) pos.line X.env = pure false := by rfl) (hf : X.fn x = true \/ X.env.scope.names.lookup x = some .local := by first | exact .inl rfl | exact .inr rfl | assumption) :
    PS X (.Assign [.Name x pos'] e pos) (tAsg te (gName i)) := by
  intro pins s σ H D I h
  refine wpAny_Assign_Name (thn (he pins s σ H _ I h) fun v s1 ⟨y, H1, I1, r1, q1⟩ => ?_) hs
  exact store_ok I1 hN hi hx r1 (fun s2 I2 => ⟨_, H1, I2, q1⟩) hf
def tAug (i : Nat) (te : TE) (ti : TIp) : TS := fun D σ H => ∃ x, σ[i]? = some (some x) /\ te σ H fun y H1 => ti x y H1 fun z H2 => D.nx (σ.set i (some z)) H2
theorem ps_aug {i : Nat} {x : Str} {e : Expr} {te : TE} {op : Operator} {ti : TIp} {pos' : Pos} (hN : X.N.Nodup) (hi : X.N[i]? = some x) (hx : Loc X.env.scope x) (he : PE X e te) (ho : PIp X op ti) (hf : X.fn x = true \/ X.env.scope.names.lookup x = some .local := by first | exact .inl rfl | exact .inr rfl | assumption) :
    PS X (.AugAssign (.Name x pos') op e pos) (tAug i te ti) := by
  intro pins s σ H D I h
  obtain ⟨v, e1, h⟩ := h
  obtain ⟨m, hn, hl⟩ := I.loc
  have vis : Vis X.env.scope x := by rcases hx with k | k; exact .inl k; exact .inr (.inl k)
  obtain ⟨u, r, l⟩ := hl i x v hi e1 vis
  refine wpAny_AugAssign_Name ?_
  have go : wpAny (model X.prog X.w) X.A (eval e X.env) (fun w s₂ => wpAny (model X.prog X.w) X.A (inplaceOp op u w) (fun r s₃ => wpAny (model X.prog X.w) X.A (storeName X.env x r) (fun _ => SP X pins D .next) X.xe s₃) X.xe s₂) X.xe s := by
    refine thn (he pins s σ H _ I h) fun w s1 ⟨y, H1, I1, r1, q1⟩ => ?_
    refine thn (ho pins s1 σ H1 v y u w _ I1 r r1 q1) fun z s2 ⟨zv, H2, I2, r2, q2⟩ => ?_
    exact store_ok I2 hN hi hx r2 (fun s3 I3 => ⟨_, H2, I3, q2⟩) hf
  rcases l with ⟨hk, hm⟩ | ⟨hk, c, hc, hcell⟩
  · exact wpAny_loadName_local I.ok.kind hk hn hm go
  · rcases hk with hk | hk
    · exact wpAny_loadName_cell I.ok.kind hk hc hcell go
    · rcases hx with k | k
      · have : X.env.scope.names.lookup x = some .free := hk
        rw [k] at this; cases this
      · have : X.env.scope.names.lookup x = some .free := hk
        rw [k] at this; cases this
def ipI (f : Int -> Int -> Int) : TIp := fun x y H Q => ∃ i j, x = .int i /\ y = .int j /\ Q (.int (f i j)) H
theorem ip_add : PIp X .Add (ipI fun i j => i + j) := by
  intro pins s σ H x y v u Q I r1 r2 h
  obtain ⟨i, j, e1, e2, q⟩ := h
  subst e1; subst e2
  obtain ⟨t, rfl⟩ := r1
  obtain ⟨t', rfl⟩ := r2
  exact iadd_int ⟨.int _, H, I.tok _, ⟨_, rfl⟩, q⟩
end
section
variable {X : Cx} {pos : Pos}
end
structure It where
  go : Nat -> Hp -> Prop
  yld : Nat -> Hp -> V -> Hp -> Prop
  stop : Nat -> Hp -> Prop
def FpOk (X : Cx) (pins : List (Addr × Obj)) (H : Hp) (b : Addr) : Prop :=
  H b = none /\ b ≠ X.env.locals /\ b ∉ X.fs /\ (b ∈ X.ex \/ X.s₀.heap.objs.size <= b) /\ (∀ x c, X.env.cells.lookup x = some c -> c ≠ b) /\ ∀ p ∈ X.pn ++ pins, p.1 ≠ b
theorem Inv.fpOk {X : Cx} {pins : List (Addr × Obj)} {σ : St} {H H' : Hp} {s : Shared} {b : Addr} (I : Inv X pins σ H s) (hb : s.heap.objs.size <= b) (hn : H' b = none) : FpOk X pins H' b := by
  refine ⟨hn, Nat.ne_of_gt (Nat.lt_of_lt_of_le I.lt hb), I.nofs hb, .inr (Nat.le_trans I.sz hb), fun x c e z => ?_, fun p hp z => ?_⟩
  · obtain ⟨v, q⟩ := I.cell x c e
    exact absurd (Nat.lt_of_lt_of_le q.lt (by rw [z]; exact hb)) (Nat.lt_irrefl _)
  · exact absurd (Nat.lt_of_lt_of_le (Heap.lt_size (I.pin p hp).1) (by rw [z]; exact hb)) (Nat.lt_irrefl _)
structure Turn (P : Program) (w : World) (K : PySem.W.Frag) (tg : Expr) (J : It) (fp : List Addr) (it : Addr) (tn : Nat -> Heap -> Prop) : Prop where
  mem : it ∈ fp
  obj : ∀ i h, tn i h -> ∀ b ∈ fp, ∃ o, h.get? b = some o /\ ∀ v, o.data ≠ .cell v
  keep : ∀ i h h', tn i h -> (∀ b ∈ fp, ∀ o, h.get? b = some o -> h'.get? b = some o) -> tn i h'
  item : ∀ (X : Cx), X.prog = P -> X.w = w -> X.K = K -> X.calm = true -> ∀ (i : Nat) (pins : List (Addr × Obj)) (s : Shared) (σ : St) (H : Hp) (E : Value -> Shared -> Prop), Inv X pins σ H s -> (∀ b ∈ fp, FpOk X pins H b) -> tn i s.heap -> J.go i H ->
    wpAny (model P w) X.A (pyNext (.ref it)) (fun r s1 => ∃ u, r = some u /\
      wpAny (model P w) X.A (letOwnedTupleGo tg (.ref it) u) (fun _ s2 => ∃ x H', Inv X pins σ H' s2 /\ zae x u /\ J.yld i H x H' /\ tn (i + 1) s2.heap /\ ∀ b ∈ fp, H' b = none) E s1) E s
  done : ∀ (X : Cx), X.prog = P -> X.w = w -> X.K = K -> X.calm = true -> ∀ (i : Nat) (pins : List (Addr × Obj)) (s : Shared) (σ : St) (H : Hp) (E : Value -> Shared -> Prop), Inv X pins σ H s -> (∀ b ∈ fp, FpOk X pins H b) -> tn i s.heap -> J.stop i H ->
    wpAny (model P w) X.A (pyNext (.ref it)) (fun r s1 => r = none /\ Inv X pins σ H s1) E s
  self : ∀ (A : Around) (i : Nat) (s : Shared) (Q : Value -> Shared -> Prop) (E : Value -> Shared -> Prop), tn i s.heap -> Q (.ref it) s -> wpAny (model P w) A (pyIter (.ref it)) Q E s
abbrev TI := St -> Hp -> (It -> Hp -> Prop) -> Prop
def PIE (X : Cx) (pins : List (Addr × Obj)) (σ : St) (tg : Expr) (R : It -> Hp -> Prop) (itv : Value) (s2 : Shared) : Prop :=
  ∃ (it : Addr) (fp : List Addr) (tn : Nat -> Heap -> Prop) (J : It) (H' : Hp), itv = .ref it /\ Inv X pins σ H' s2 /\ Turn X.prog X.w X.K tg J fp it tn /\ tn 0 s2.heap /\ (∀ b ∈ fp, FpOk X pins H' b) /\ R J H'
def PI (X : Cx) (tg iter : Expr) (wi : TI) : Prop :=
  ∀ (pins : List (Addr × Obj)) (s : Shared) (σ : St) (H : Hp) (R : It -> Hp -> Prop), Inv X pins σ H s -> wi σ H R ->
    wpAny (model X.prog X.w) X.A (eval iter X.env) (fun v s1 => wpAny (model X.prog X.w) X.A (pyIter v) (PIE X pins σ tg R) X.xe s1) X.xe s
theorem go_of {M : Model} {A : Around} {E : Value -> Shared -> Prop} {s : Shared} {tg : Expr} {it : Addr} {u : Value} {o : Obj} {n : String} {vs : Array Value} {Q : Unit -> Shared -> Prop} (ho : s.heap.get? it = some o) (hc : o.cls = .type n) (hd : o.data = .fields vs)
    (hn : ["enumerate", "zip", "dict_itemiterator", "dict_reverseitemiterator", "odict_iterator", "itertools.zip_longest", "itertools.pairwise"].contains n = false) (hQ : Q () s) : wpAny M A (letOwnedTupleGo tg (.ref it) u) Q E s := by
  unfold letOwnedTupleGo
  cases tg <;> first
    | exact wpAny_pure hQ
    | (cases u <;> first
        | exact wpAny_pure hQ
        | (refine wpAny_bind (wpAny_load ho ?_)
           rw [hc, hd]
           show wpAny M A (if (["enumerate", "zip", "dict_itemiterator", "dict_reverseitemiterator", "odict_iterator", "itertools.zip_longest", "itertools.pairwise"].contains n && vs[0]? == some (rawInt _)) = true then _ else _) Q E s
           rw [if_neg (by intro h; rw [hn, Bool.false_and] at h; cases h)]
           exact wpAny_pure hQ))
def Itl (K : PySem.W.Frag) (a : Addr) : It :=
  ⟨fun i H => ∃ xs x, SqL K H a xs /\ xs[i]? = some x, fun i H x H' => H' = H /\ ∀ xs, SqL K H a xs -> xs[i]? = some x, fun i H => ∃ xs, SqL K H a xs /\ xs.length <= i⟩
def Itt (K : PySem.W.Frag) (a : Addr) : It :=
  ⟨fun i H => ∃ xs x, SqT K H a xs /\ xs[i]? = some x, fun i H x H' => H' = H /\ ∀ xs, SqT K H a xs -> xs[i]? = some x, fun i H => ∃ xs, SqT K H a xs /\ xs.length <= i⟩
def Itr (lo : Int) (n : Nat) : It := ⟨fun i _ => i < n, fun i H x H' => H' = H /\ x = .int (lo + i), fun i _ => n <= i⟩
theorem turn_list {P : Program} {w : World} {K : PySem.W.Frag} {tg : Expr} (a it : Addr) : Turn P w K tg (Itl K a) [it] it (fun i h => h.IsListIter it a i) where
  mem := by simp
  obj := fun i h st b hb => by
    have e : b = it := by simpa using hb
    subst e
    obtain ⟨o, e, c, d⟩ := st
    exact ⟨o, e, fun v z => by rw [d] at z; cases z⟩
  keep := fun i h h' st k => st.at fun o e => k it (by simp) o e
  item := by
    intro X hP hw hK hc i pins s σ H E I hf st hg
    subst hP hw hK
    obtain ⟨xs, x, hq, hx⟩ := hg
    obtain ⟨its, rv, p, hz⟩ := I.list hq
    obtain ⟨u, hu, ru⟩ := rv.get hx
    obtain ⟨f0, f1, f2, f3, f4, f5⟩ := hf it (by simp)
    refine wpAny_pyNext_list_item st p.isList (x := u) (by simpa using hu) fun h' st' sb => ?_
    have I1 : Inv X pins σ H { s with heap := h' } := I.turned (t' := s.toks) (fun b o hb e => (sb.2 b hb).trans e) f0 f1 f3 f4 f5
    obtain ⟨o, e, c, d⟩ := id st'
    exact ⟨u, rfl, go_of (s := { s with heap := h' }) e c d (by decide) ⟨x, H, I1, ru, ⟨rfl, fun ys hy => by rw [I.list_inj hy hq]; exact hx⟩, st', fun b hb => (hf b hb).1⟩⟩
  done := by
    intro X hP hw hK hc i pins s σ H E I hf st hg
    subst hP hw hK
    obtain ⟨xs, hq, hx⟩ := hg
    obtain ⟨its, rv, p, hz⟩ := I.list hq
    obtain ⟨f0, f1, f2, f3, f4, f5⟩ := hf it (by simp)
    have hl := rv.length
    exact wpAny_pyNext_list_end (I.ok.hd hc) st p.isList (by simp; omega) fun h' eb => ⟨rfl, I.turned (t' := s.toks) (fun b o hb e => eb b o hb e) f0 f1 f3 f4 f5⟩
  self := fun _ _ _ _ _ st h => wpAny_pyIter_listiter st h
theorem turn_tuple {P : Program} {w : World} {K : PySem.W.Frag} {tg : Expr} (a it : Addr) : Turn P w K tg (Itt K a) [it] it (fun i h => h.IsTupleIter it a i) where
  mem := by simp
  obj := fun i h st b hb => by
    have e : b = it := by simpa using hb
    subst e
    obtain ⟨o, e, c, d⟩ := st
    exact ⟨o, e, fun v z => by rw [d] at z; cases z⟩
  keep := fun i h h' st k => st.at fun o e => k it (by simp) o e
  item := by
    intro X hP hw hK hc i pins s σ H E I hf st hg
    subst hP hw hK
    obtain ⟨xs, x, hq, hx⟩ := hg
    obtain ⟨its, rv, p, hz⟩ := I.tuple hq
    obtain ⟨u, hu, ru⟩ := rv.get hx
    obtain ⟨f0, f1, f2, f3, f4, f5⟩ := hf it (by simp)
    refine wpAny_pyNext_tuple_item st (show s.heap.IsTuple a its.toArray from p) (x := u) (by simpa using hu) fun h' st' sb => ?_
    have I1 : Inv X pins σ H { s with heap := h' } := I.turned (t' := s.toks) (fun b o hb e => (sb.2 b hb).trans e) f0 f1 f3 f4 f5
    obtain ⟨o, e, c, d⟩ := id st'
    exact ⟨u, rfl, go_of (s := { s with heap := h' }) e c d (by decide) ⟨x, H, I1, ru, ⟨rfl, fun ys hy => by rw [I.tuple_inj hy hq]; exact hx⟩, st', fun b hb => (hf b hb).1⟩⟩
  done := by
    intro X hP hw hK hc i pins s σ H E I hf st hg
    subst hP hw hK
    obtain ⟨xs, hq, hx⟩ := hg
    obtain ⟨its, rv, p, hz⟩ := I.tuple hq
    obtain ⟨f0, f1, f2, f3, f4, f5⟩ := hf it (by simp)
    have hl := rv.length
    exact wpAny_pyNext_tuple_end (I.ok.hd hc) st (show s.heap.IsTuple a its.toArray from p) (by simp; omega) fun h' eb => ⟨rfl, I.turned (t' := s.toks) (fun b o hb e => eb b o hb e) f0 f1 f3 f4 f5⟩
  self := fun _ _ _ _ _ st h => wpAny_pyIter_tupleiter st h
theorem turn_range {P : Program} {w : World} {K : PySem.W.Frag} {tg : Expr} (it : Addr) (lo : Int) (n : Nat) : Turn P w K tg (Itr lo n) [it] it (fun i h => IsRangeIter h it (lo + (i : Nat) * 1) ((n : Int) - (i : Nat)) 1) where
  mem := by simp
  obj := fun i h st b hb => by
    have e : b = it := by simpa using hb
    subst e
    exact ⟨_, st, fun v z => by
      have z' : Data.fields _ = Data.cell v := z
      cases z'⟩
  keep := fun i h h' st k => k it (by simp) _ st
  item := by
    intro X hP hw hK hc i pins s σ H E I hf st hg
    subst hP hw hK
    obtain ⟨f0, f1, f2, f3, f4, f5⟩ := hf it (by simp)
    have W := Walks.range (prog := X.prog) (w := X.w) (I.ok.hd hc) it lo 1 n
    refine W.item i s _ _ hg st fun v h' tk hv st' kk => ?_
    obtain ⟨t, rfl⟩ := hv
    have I1 : Inv X pins σ H { s with heap := h', toks := tk } := I.turned (fun b o hb e => kk b o (by simpa using hb) e) f0 f1 f3 f4 f5
    refine ⟨_, rfl, go_of (s := { s with heap := h', toks := tk }) (n := "range_iterator") st' rfl rfl (by decide) ⟨.int (lo + i), H, I1, ⟨t, ?_⟩, ⟨rfl, rfl⟩, st', fun b hb => (hf b hb).1⟩⟩
    rw [Int.mul_one]
  done := by
    intro X hP hw hK hc i pins s σ H E I hf st hg
    subst hP hw hK
    obtain ⟨f0, f1, f2, f3, f4, f5⟩ := hf it (by simp)
    exact wpAny_pyNext_range_end (I.ok.hd hc) st (by have : n <= i := hg; omega) fun h' eb => ⟨rfl, I.turned (t' := s.toks) (fun b o hb e => eb b o hb e) f0 f1 f3 f4 f5⟩
  self := fun _ _ _ _ _ st h => wpAny_pyIter_rangeiter st h
end L2
namespace L2
open PySem PySem.Spec PyProof.Rows
section
variable {X : Cx} {tg : Expr}
theorem range_it {pins : List (Addr × Obj)} {σ : St} {H : Hp} {s : Shared} {R : It -> Hp -> Prop} {E : Value -> Shared -> Prop} {lo hi : Int} {t u v : Tok} {tk : Nat} (I : Inv X pins σ H s) (h1 : -(2 ^ 62) <= lo) (h2 : lo < 2 ^ 62) (h3 : -(2 ^ 62) <= hi) (h4 : hi < 2 ^ 62)
    (q : R (Itr lo (hi - lo).toNat) H) : wpAny (model X.prog X.w) X.A (pyIter (.ref s.heap.objs.size)) (PIE X pins σ tg R) E { s with heap := s.heap.push { cls := .type "range", data := .fields #[.int lo t, .int hi u, .int 1 v] }, toks := tk } := by
  refine wpAny_pyIter_range (IsRange.new ..) (small_one h1 h2 h3 h4) ?_
  have I1 : Inv X pins σ H { s with heap := s.heap.push { cls := .type "range", data := .fields #[.int lo t, .int hi u, .int 1 v] }, toks := tk } := I.kept fun b o e => Heap.get?_push_of_some _ e
  refine ⟨(s.heap.push { cls := .type "range", data := .fields #[.int lo t, .int hi u, .int 1 v] }).objs.size, [(s.heap.push { cls := .type "range", data := .fields #[.int lo t, .int hi u, .int 1 v] }).objs.size], _, _, H, rfl,
    I1.kept (t' := tk) fun b o e => Heap.get?_push_of_some _ e, turn_range _ lo (hi - lo).toNat, ?_, fun b hb => ?_, q⟩
  · have e1 : lo + ((0 : Nat) : Int) * 1 = lo := by simp
    have e2 : (((hi - lo).toNat : Nat) : Int) - ((0 : Nat) : Int) = Builtin.Range.rangeSize lo hi 1 := by rw [rangeSize_one]; split <;> omega
    show IsRangeIter _ _ (lo + ((0 : Nat) : Int) * 1) ((((hi - lo).toNat : Nat) : Int) - ((0 : Nat) : Int)) 1
    rw [e1, e2]
    exact Heap.get?_push_size _ rfl
  · have e : b = (s.heap.push { cls := .type "range", data := .fields #[.int lo t, .int hi u, .int 1 v] }).objs.size := by simpa using hb
    subst e
    exact I1.fpOk (Nat.le_refl _) (I1.hok.fresh (Nat.le_refl _))
def iRng1 (ta : TA) : TI := fun σ H R => ta σ H fun vs H1 => ∃ j : Int, vs = [.int j] /\ -(2 ^ 62) <= j /\ j < 2 ^ 62 /\ R (Itr 0 j.toNat) H1
theorem pi_range1 {a : Expr} {ta : TA} {p pos : Pos} (hg : Gl X "range") (hm : X.mg "range" = none) (ha : PA X [a] ta) (hs : starEach [a] X.env = [(false, eval a X.env)] := by rfl) : PI X tg (.Call (.Name "range" p) [a] [] pos) (iRng1 ta) := by
  intro pins s σ H R I h
  refine Call_ (ld_blt I hg hm boot_range (PyProof.Rows.callWith_type1 (thn (ha pos pins s σ H _ I h) fun us s1 ⟨vs, H1, I1, r1, q1⟩ => ?_) hs rfl))
  obtain ⟨j, e, q1, q2, q⟩ := q1
  subst e
  cases r1 with
  | cons r rr =>
    cases rr
    obtain ⟨t, rfl⟩ := r
    exact call_range_1 (range_it I1 (by omega) (by omega) q1 q2 (by simpa using q))
def tFor (wi : TI) (g : TG) (tb : TS) : TS := fun D σ H => wi σ H fun J H1 => ∃ W : Nat -> Nat -> St -> Hp -> Prop, (∃ m, W 0 m σ H1) /\ ∀ i m σ H, W i m σ H ->
  (J.stop i H /\ D.nx σ H) \/ (J.go i H /\ ∃ N : St -> Hp -> Prop, (∀ σ' H', N σ' H' -> ∃ m', m' < m /\ W (i + 1) m' σ' H') /\ ∀ x H', J.yld i H x H' -> g x σ H' fun σ2 H2 => tb { D with nx := N, ct := N, bk := D.nx } σ2 H2)
def pinsAt (fp : List Addr) (h : Heap) : List (Addr × Obj) := fp.filterMap fun b => (h.get? b).map fun o => (b, o)
theorem mem_pinsAt {fp : List Addr} {h : Heap} {b : Addr} {o : Obj} (hb : b ∈ fp) (e : h.get? b = some o) : (b, o) ∈ pinsAt fp h := List.mem_filterMap.mpr ⟨b, hb, by rw [e]; rfl⟩
theorem of_pinsAt {fp : List Addr} {h : Heap} {p : Addr × Obj} (hp : p ∈ pinsAt fp h) : p.1 ∈ fp /\ h.get? p.1 = some p.2 := by
  obtain ⟨b, hb, e⟩ := List.mem_filterMap.mp hp
  cases q : h.get? b with
  | none => rw [q] at e; cases e
  | some o =>
    rw [q] at e
    have e' : (b, o) = p := Option.some.inj e
    subst e'
    exact ⟨hb, q⟩
theorem Inv.pinned {pins : List (Addr × Obj)} {σ : St} {H : Hp} {s : Shared} {fp : List Addr} (I : Inv X pins σ H s) (hf : ∀ b ∈ fp, FpOk X pins H b) (ho : ∀ b ∈ fp, ∃ o, s.heap.get? b = some o /\ ∀ v, o.data ≠ .cell v) : Inv X (pins ++ pinsAt fp s.heap) σ H s :=
  I.pins_of fun p hp => (List.mem_append.mp hp).elim (fun z => I.pin p (List.mem_append_right _ z)) fun z => by
    obtain ⟨hb, e⟩ := of_pinsAt z
    obtain ⟨f0, f1, f2, _⟩ := hf p.1 hb
    obtain ⟨o, e', d⟩ := ho p.1 hb
    rw [e] at e'; cases e'
    exact ⟨e, f0, f1, f2, d⟩
theorem Inv.unpinned {pins pl : List (Addr × Obj)} {σ : St} {H : Hp} {s : Shared} (I : Inv X (pins ++ pl) σ H s) : Inv X pins σ H s := I.pins_of fun p hp => I.pin p (List.mem_append_right _ (List.mem_append_left _ hp))
theorem ps_for {iter : Expr} {body : List Stmt} {wi : TI} {g : TG} {tb : TS} {pos : Pos} (hp : PassesOwn (model X.prog X.w) X.A X.env X.xe) (hc : X.calm = true) (hi : PI X tg iter wi) (hg : PG X tg g) (hb : PSs X body tb)
    (hs : ∀ x, foldedSetIterable iter X.env x = pure x := by intro _; rfl) : PS X (.For tg iter body [] pos) (tFor wi g tb) := by
  intro pins s σ H D I h
  refine wpAny_For (thn (hi pins s σ H _ I h) fun v s1 h1 => thn h1 fun itv s2 h2 => ?_) hs
  obtain ⟨it, fp, tn, J, H2, e, I2, T, st2, f2, W, ⟨m0, w0⟩, turn⟩ := h2
  subst e
  have stat : ∀ {H' : Hp}, (∀ b ∈ fp, H' b = none) -> ∀ b ∈ fp, FpOk X pins H' b := fun hn b hb => ⟨hn b hb, (f2 b hb).2⟩
  refine codeAny_forLoop_any (fun n s' => ∃ i σ' H', Inv X pins σ' H' s' /\ tn i s'.heap /\ (∀ b ∈ fp, H' b = none) /\ W i n σ' H') ?_ m0 ⟨0, σ, H2, I2, st2, fun b hb => (f2 b hb).1, w0⟩
  rintro n s3 ⟨i, σ3, H3, I3, st3, fr3, w3⟩
  rcases turn i n σ3 H3 w3 with ⟨stop, qn⟩ | ⟨go, N, hN, step⟩
  · refine wpAny_passesOwn hp (thn (T.done X rfl rfl rfl hc i pins s3 σ3 H3 X.xe I3 (stat fr3) st3 stop) fun r s4 ⟨hr, I4⟩ => ?_)
    subst hr
    exact wpAny_execs_nil ⟨σ3, H3, I4, qn⟩
  · refine wpAny_passesOwn hp (thn (T.item X rfl rfl rfl hc i pins s3 σ3 H3 X.xe I3 (stat fr3) st3 go) fun r s4 ⟨u, hr, h4⟩ => ?_)
    subst hr
    refine wpAny_passesOwn hp (thn h4 fun _ s5 ⟨x, H5, I5, r5, y5, st5, fr5⟩ => ?_)
    have I5' := I5.pinned (stat fr5) (T.obj _ _ st5)
    refine wpAny_passesOwn hp (thn (hg _ s5 σ3 H5 x u _ I5' r5 (step x H5 y5)) fun _ s6 ⟨σ6, H6, I6, q6⟩ => ?_)
    refine wpAny_passesOwn hp (thn (hb _ s6 σ6 H6 _ I6 q6) fun f s7 q7 => ?_)
    have again : ∀ {σ7 : St} {H7 : Hp}, Inv X (pins ++ pinsAt fp s5.heap) σ7 H7 s7 -> N σ7 H7 -> ∃ m, m < n /\ ∃ i σ' H', Inv X pins σ' H' s7 /\ tn i s7.heap /\ (∀ b ∈ fp, H' b = none) /\ W i m σ' H' := fun {σ7 H7} I7 n7 => by
      obtain ⟨m', hm, w7⟩ := hN σ7 H7 n7
      refine ⟨m', hm, i + 1, σ7, H7, I7.unpinned, T.keep _ _ _ st5 fun b hb o e => (I7.pin (b, o) (List.mem_append_right _ (List.mem_append_right _ (mem_pinsAt hb e)))).1, fun b hb => ?_, w7⟩
      obtain ⟨o, e, d⟩ := T.obj _ _ st5 b hb
      exact (I7.pin (b, o) (List.mem_append_right _ (List.mem_append_right _ (mem_pinsAt hb e)))).2.1
    cases f with
    | next => obtain ⟨σ7, H7, I7, n7⟩ := q7; exact again I7 n7
    | cont => obtain ⟨σ7, H7, I7, n7⟩ := q7; exact again I7 n7
    | brk => obtain ⟨σ7, H7, I7, q7⟩ := q7; exact ⟨σ7, H7, I7.unpinned, q7⟩
    | ret v => obtain ⟨x7, σ7, H7, I7, r7, q7⟩ := q7; exact ⟨x7, σ7, H7, I7.unpinned, r7, q7⟩
end
end L2
namespace L2
open PySem PySem.Spec PyProof.Rows
abbrev R2 := V -> V -> Hp -> VK -> Prop
def OpR (X : Cx) (f : Value -> Value -> Sem Value) (r : R2) : Prop :=
  ∀ (pins : List (Addr × Obj)) (s : Shared) (σ : St) (H : Hp) (x y : V) (v u : Value) (Q : VK), Inv X pins σ H s -> zae x v -> zae y u -> r x y H Q ->
    wpAny (model X.prog X.w) X.A (f v u) (EP X pins σ Q) X.xe s
def UnR (X : Cx) (f : Value -> Sem Value) (r : V -> Hp -> VK -> Prop) : Prop :=
  ∀ (pins : List (Addr × Obj)) (s : Shared) (σ : St) (H : Hp) (x : V) (v : Value) (Q : VK), Inv X pins σ H s -> zae x v -> r x H Q ->
    wpAny (model X.prog X.w) X.A (f v) (EP X pins σ Q) X.xe s
def CallR (X : Cx) (f : Value) (r : List V -> Hp -> VK -> Prop) : Prop :=
  ∀ (pins : List (Addr × Obj)) (s : Shared) (σ : St) (H : Hp) (xs : List V) (us : List Value) (Q : VK), Inv X pins σ H s -> zag xs us -> r xs H Q ->
    wpAny (model X.prog X.w) X.A (call f us) (EP X pins σ Q) X.xe s
def tOp (r : R2) (ta tb : TE) : TE := fun σ H Q => ta σ H fun x H1 => tb σ H1 fun y H2 => r x y H2 Q
def tUn (r : V -> Hp -> VK -> Prop) (ta : TE) : TE := fun σ H Q => ta σ H fun x H1 => r x H1 Q
def rI (C : Int -> Int -> Prop) (g : Int -> Int -> V) : R2 := fun x y H Q => ∃ i j, x = .int i /\ y = .int j /\ C i j /\ Q (g i j) H
def rI0 (g : Int -> Int -> V) : R2 := fun x y H Q => ∃ i j, x = .int i /\ y = .int j /\ Q (g i j) H
def rU (g : Int -> V) : V -> Hp -> VK -> Prop := fun x H Q => ∃ i, x = .int i /\ Q (g i) H
section
variable {X : Cx} {a b c : Expr} {ta tb tc : TE} {pos : Pos}
theorem binT (ha : PE X a ta) (hb : PE X b tb) {pins : List (Addr × Obj)} {s : Shared} {σ : St} {H : Hp} {R : V -> V -> Hp -> Prop} (I : Inv X pins σ H s)
    (h : ta σ H fun x H1 => tb σ H1 fun y H2 => R x y H2) {Q : Value -> Shared -> Prop} {f : Value -> Value -> Sem Value}
    (hf : ∀ v u s2 x y H2, Inv X pins σ H2 s2 -> zae x v -> zae y u -> R x y H2 -> wpAny (model X.prog X.w) X.A (f v u) Q X.xe s2) :
    wpAny (model X.prog X.w) X.A (eval a X.env) (fun v s₁ => wpAny (model X.prog X.w) X.A (eval b X.env) (fun u s₂ => wpAny (model X.prog X.w) X.A (f v u) Q X.xe s₂) X.xe s₁) X.xe s := by
  refine thn (ha pins s σ H _ I h) fun v s1 ⟨x, H1, I1, r1, q1⟩ => ?_
  refine thn (hb pins s1 σ H1 _ I1 q1) fun u s2 ⟨y, H2, I2, r2, q2⟩ => ?_
  exact hf v u s2 x y H2 I2 r1 r2 q2
theorem pe_op {op : Operator} {r : R2} (ho : OpR X (binaryOp op) r) (ha : PE X a ta) (hb : PE X b tb) : PE X (.BinOp a op b pos) (tOp r ta tb) := by
  intro pins s σ H Q I h
  exact wpAny_BinOp (binT ha hb I h fun v u s2 x y H2 I2 rx ry q => ho pins s2 σ H2 x y v u Q I2 rx ry q)
theorem pe_un {op : UnaryOp} {r : V -> Hp -> VK -> Prop} (ho : UnR X (unaryOp op) r) (ha : PE X a ta) : PE X (.UnaryOp op a pos) (tUn r ta) := by
  intro pins s σ H Q I h
  exact UnaryOp_ (thn (ha pins s σ H _ I h) fun v s1 ⟨x, H1, I1, r1, q1⟩ => ho pins s1 σ H1 x v Q I1 r1 q1)
theorem opI {f : Value -> Value -> Sem Value} {C : Int -> Int -> Prop} {g : Int -> Int -> Int}
    (rule : ∀ (i j : Int) (t u : Tok) (s : Shared) (Q : Value -> Shared -> Prop) (E : Value -> Shared -> Prop), C i j -> Q (.int (g i j) s.toks) { s with toks := s.toks + 1 } -> wpAny (model X.prog X.w) X.A (f (.int i t) (.int j u)) Q E s) :
    OpR X f (rI C fun i j => .int (g i j)) := by
  intro pins s σ H x y v u Q I rx ry h
  obtain ⟨i, j, rfl, rfl, hc, q⟩ := h
  obtain ⟨t, rfl⟩ := rx
  obtain ⟨t', rfl⟩ := ry
  exact rule i j t t' s _ _ hc ⟨.int (g i j), H, I.tok _, ⟨_, rfl⟩, q⟩
theorem opI0 {f : Value -> Value -> Sem Value} {g : Int -> Int -> Int}
    (rule : ∀ (i j : Int) (t u : Tok) (s : Shared) (Q : Value -> Shared -> Prop) (E : Value -> Shared -> Prop), Q (.int (g i j) s.toks) { s with toks := s.toks + 1 } -> wpAny (model X.prog X.w) X.A (f (.int i t) (.int j u)) Q E s) :
    OpR X f (rI0 fun i j => .int (g i j)) := by
  intro pins s σ H x y v u Q I rx ry h
  obtain ⟨i, j, rfl, rfl, q⟩ := h
  obtain ⟨t, rfl⟩ := rx
  obtain ⟨t', rfl⟩ := ry
  exact rule i j t t' s _ _ ⟨.int (g i j), H, I.tok _, ⟨_, rfl⟩, q⟩
theorem opB0 {f : Value -> Value -> Sem Value} {g : Int -> Int -> Bool}
    (rule : ∀ (i j : Int) (t u : Tok) (s : Shared) (Q : Value -> Shared -> Prop) (E : Value -> Shared -> Prop), Q (.bool (g i j)) s -> wpAny (model X.prog X.w) X.A (f (.int i t) (.int j u)) Q E s) :
    OpR X f (rI0 fun i j => .bl (g i j)) := by
  intro pins s σ H x y v u Q I rx ry h
  obtain ⟨i, j, rfl, rfl, q⟩ := h
  obtain ⟨t, rfl⟩ := rx
  obtain ⟨t', rfl⟩ := ry
  exact rule i j t t' s _ _ ⟨.bl (g i j), H, I, rfl, q⟩
def CDiv (i j : Int) : Prop := 0 < j /\ j < 1073741824
def CPow (i j : Int) : Prop := 0 <= j /\ j <= 1000000 /\ i.natAbs < 2 ^ 64
def CMul (i j : Int) : Prop := (-(2 ^ 64) < i /\ i < 2 ^ 64) \/ (-(2 ^ 64) < j /\ j < 2 ^ 64)
theorem CMul.ok {i j : Int} (h : CMul i j) : IntMulOk i j := by
  rcases h with ⟨h1, h2⟩ | ⟨h1, h2⟩
  · exact .of_left (intBits_le_64 h1 h2)
  · exact .of_right (intBits_le_64 h1 h2)
theorem two_pow_nn (k : Nat) : (0 : Int) <= 2 ^ k := by
  rw [two_pow_cast]
  exact Int.natCast_nonneg _
theorem op_add : OpR X (binaryOp .Add) (rI0 fun i j => .int (i + j)) := opI0 fun _ _ _ _ _ _ _ q => add_int q
theorem op_sub : OpR X (binaryOp .Sub) (rI0 fun i j => .int (i - j)) := opI0 fun _ _ _ _ _ _ _ q => sub_int q
theorem op_mul : OpR X (binaryOp .Mult) (rI CMul fun i j => .int (i * j)) := opI fun _ _ _ _ _ _ _ hc q => mul_int q hc.ok
theorem zcn : OpR X (binaryOp .FloorDiv) (rI CDiv fun i j => .int (i / j)) := opI fun i j _ _ _ _ _ hc q => by
  have h1 : (0 : Int) < j := hc.1
  have h2 : j < 1073741824 := hc.2
  exact floordiv_int (by omega) (by rw [Int.fdiv_eq_ediv_of_nonneg i (by omega)]; exact q) (.inl (PyProof.noPylong_small (by omega)))
theorem zco : OpR X (binaryOp .Mod) (rI (fun _ j => 0 < j) fun i j => .int (i % j)) := opI fun i j _ _ _ _ _ hc q => by
  have h1 : (0 : Int) < j := hc
  exact mod_int' (by omega) (by rw [Int.fmod_eq_emod_of_nonneg i (by omega)]; exact q)
theorem op_pow : OpR X (binaryOp .Pow) (rI CPow fun i j => .int (i ^ j.toNat)) := opI fun _ _ _ _ _ _ _ hc q => pow_int_small hc.1 hc.2.1 hc.2.2 q
theorem op_shr : OpR X (binaryOp .RShift) (rI (fun _ j => 0 <= j) fun i j => .int (i / 2 ^ j.toNat)) := opI fun i j _ _ _ _ _ hc q =>
  rshift_int hc (by rw [Int.fdiv_eq_ediv_of_nonneg i (two_pow_nn _)]; exact q)
theorem op_and : OpR X (binaryOp .BitAnd) (rI0 fun i j => .int (Builtin.bitAnd i j)) := opI0 fun _ _ _ _ _ _ _ q => and_int q
theorem unI {f : Value -> Sem Value} {g : Int -> Int}
    (rule : ∀ (i : Int) (t : Tok) (s : Shared) (Q : Value -> Shared -> Prop) (E : Value -> Shared -> Prop), Q (.int (g i) s.toks) { s with toks := s.toks + 1 } -> wpAny (model X.prog X.w) X.A (f (.int i t)) Q E s) :
    UnR X f (rU fun i => .int (g i)) := by
  intro pins s σ H x v Q I rx h
  obtain ⟨i, rfl, q⟩ := h
  obtain ⟨t, rfl⟩ := rx
  exact rule i t s _ _ ⟨.int (g i), H, I.tok _, ⟨_, rfl⟩, q⟩
theorem un_neg : UnR X (unaryOp .USub) (rU fun i => .int (-i)) := unI fun _ _ _ _ _ q => neg_int q
end
section
variable {X : Cx} {a b c : Expr} {ta tb tc : TE} {pos : Pos}
theorem fin_bl {pins : List (Addr × Obj)} {σ : St} {H : Hp} {s : Shared} {Q : VK} {k k' : Bool} (I : Inv X pins σ H s) (q : Q (.bl k) H) (e : k = k') : EP X pins σ Q (.bool k') s := by
  subst e
  exact ⟨.bl k, H, I, rfl, q⟩
theorem op_lt : OpR X (compareOp .Lt) (rI0 fun i j => .bl (decide (i < j))) := opB0 fun _ _ _ _ _ _ _ q => lt_int q
theorem op_le : OpR X (compareOp .LtE) (rI0 fun i j => .bl (decide (i <= j))) := opB0 fun _ _ _ _ _ _ _ q => le_int q
theorem op_gt : OpR X (compareOp .Gt) (rI0 fun i j => .bl (decide (j < i))) := opB0 fun _ _ _ _ _ _ _ q => gt_int q
theorem op_ge : OpR X (compareOp .GtE) (rI0 fun i j => .bl (decide (j <= i))) := opB0 fun _ _ _ _ _ _ _ q => ge_int q
theorem op_isN : OpR X (compareOp .Is) (fun x y H Q => y = .non /\ Q (.bl (decide (x = .non))) H) := by
  intro pins s σ H x y v u Q I rx ry h
  obtain ⟨rfl, q⟩ := h
  cases ry
  refine is_none_gen (fin_bl I q ?_)
  cases x <;> first
    | (cases rx; rfl)
    | (obtain ⟨t, rfl⟩ := rx; rfl)
theorem op_notN : OpR X (compareOp .IsNot) (fun x y H Q => y = .non /\ Q (.bl (!decide (x = .non))) H) := by
  intro pins s σ H x y v u Q I rx ry h
  obtain ⟨rfl, q⟩ := h
  cases ry
  refine isnot_none_gen (fin_bl I q ?_)
  cases x <;> first
    | (cases rx; rfl)
    | (obtain ⟨t, rfl⟩ := rx; rfl)
theorem OpR.or {f : Value -> Value -> Sem Value} {r r' : R2} (h : OpR X f r) (h' : OpR X f r') : OpR X f (fun x y H Q => r x y H Q \/ r' x y H Q) := by
  intro pins s σ H x y v u Q I rx ry q
  rcases q with q | q
  · exact h pins s σ H x y v u Q I rx ry q
  · exact h' pins s σ H x y v u Q I rx ry q
theorem zcd (b : Expr) {op : CmpOp} (h : op ≠ .In := by decide) (h2 : op ≠ .NotIn := by decide) : behindInMarks op b = false := by
  have e1 : (op == CmpOp.In) = false := by cases op <;> first | rfl | exact absurd rfl h
  have e2 : (op == CmpOp.NotIn) = false := by cases op <;> first | rfl | exact absurd rfl h2
  cases b <;> simp [behindInMarks, e1, e2]
theorem pe_cmpR {op : CmpOp} {r : R2} (ho : OpR X (compareOp op) r) (ha : PE X a ta) (hb : PE X b tb) (hm : behindInMarks op b = false) : PE X (.Compare a [op] [b] pos) (tOp r ta tb) := by
  intro pins s σ H Q I h
  exact wpAny_Compare1 (binT ha hb I h fun v u s2 x y H2 I2 rx ry q => ho pins s2 σ H2 x y v u Q I2 rx ry q) hm
def tTest (t : TE) : TT := fun σ H Q => t σ H fun x H' => ∃ k, x = .bl k /\ Q k H'
theorem pt_cmpR {op : CmpOp} {r : R2} (ho : OpR X (compareOp op) r) (ha : PE X a ta) (hb : PE X b tb) (hm : behindInMarks op b = false) : PT X (.Compare a [op] [b] pos) (tTest (tOp r ta tb)) := by
  intro pins s σ H Q I h
  refine wpAny_isTrue_Compare1 (thn (ha pins s σ H _ I h) fun v s1 ⟨x, H1, I1, r1, q1⟩ => thn (hb pins s1 σ H1 _ I1 q1) fun u s2 ⟨y, H2, I2, r2, q2⟩ =>
    thn (ho pins s2 σ H2 x y v u _ I2 r1 r2 q2) fun c s3 ⟨z, H3, I3, r3, k, e, q3⟩ => ?_) hm
  subst e
  cases r3
  exact wpAny_truthy_bool ⟨H3, I3, q3⟩
def tChain (r r' : R2) (ta tb tc : TE) : TE := fun σ H Q => ta σ H fun x H1 => tb σ H1 fun y H2 => r x y H2 fun z H3 => ∃ k, z = .bl k /\
  (if k = true then tc σ H3 fun w' H4 => r' y w' H4 Q else Q (.bl false) H3)
theorem pe_chain {op op' : CmpOp} {r r' : R2} (ho : OpR X (compareOp op) r) (ho' : OpR X (compareOp op') r') (ha : PE X a ta) (hb : PE X b tb) (hc : PE X c tc)
    (hm : lastMarks [op, op'] [b, c] = false := by with_unfolding_all rfl) : PE X (.Compare a [op, op'] [b, c] pos) (tChain r r' ta tb tc) := by
  intro pins s σ H Q I h
  refine Compare_chain (thn (ha pins s σ H _ I h) fun v s1 ⟨x, H1, I1, r1, q1⟩ => chain_link (thn (hb pins s1 σ H1 _ I1 q1) fun u s2 ⟨y, H2, I2, r2, q2⟩ =>
    thn (ho pins s2 σ H2 x y v u _ I2 r1 r2 q2) fun d s3 ⟨z, H3, I3, r3, k, e, q3⟩ => ?_)) hm
  subst e
  cases r3
  refine wpAny_truthy_bool ?_
  cases k with
  | false => exact ite_ff ⟨.bl false, H3, I3, rfl, q3⟩
  | true => exact ite_tt (chain_last (thn (hc pins s3 σ H3 _ I3 q3) fun w' s4 ⟨z', H4, I4, r4, q4⟩ => ho' pins s4 σ H4 y z' u w' Q I4 r2 r4 q4))
theorem line63 : (sizeLine : Nat) < 2 ^ 63 := by rw [sizeLine_eq]; decide
theorem op_add_str : OpR X (binaryOp .Add) (fun x y H Q => ∃ i j, x = .str i /\ y = .str j /\ i.length + j.length <= sizeLine /\ Q (.str (i ++ j)) H) := by
  intro pins s σ H x y v u Q I rx ry h
  obtain ⟨i, j, rfl, rfl, hz, q⟩ := h
  obtain ⟨t, rfl⟩ := rx
  obtain ⟨t', rfl⟩ := ry
  exact add_str (fun t' tk => ⟨.str (i ++ j), H, I.tok _, ⟨_, rfl⟩, q⟩) hz
theorem vals1 {x : V} {us : List Value} (r : zag [x] us) : ∃ u, us = [u] /\ zae x u := by
  cases r with
  | cons r1 r2 => cases r2; exact ⟨_, rfl, r1⟩
theorem vals2 {x y : V} {us : List Value} (r : zag [x, y] us) : ∃ u w', us = [u, w'] /\ zae x u /\ zae y w' := by
  cases r with
  | cons r1 r2 =>
    cases r2 with
    | cons r3 r4 => cases r4; exact ⟨_, _, rfl, r1, r3⟩
theorem call_min2 (hc : X.calm = true) : CallR X (.builtin "min") (fun xs H Q => ∃ i j, xs = [.int i, .int j] /\ Q (.int (if j < i then j else i)) H) := by
  intro pins s σ H xs us Q I r h
  obtain ⟨i, j, rfl, q⟩ := h
  obtain ⟨u, w', rfl, ⟨t, rfl⟩, ⟨t', rfl⟩⟩ := vals2 r
  refine min_two_ints (I.ok.hd hc) fun h' tk k => ⟨_, H, I.kept k, ?_, q⟩
  by_cases hj : j < i
  · rw [if_pos hj, if_pos hj]; exact ⟨_, rfl⟩
  · rw [if_neg hj, if_neg hj]; exact ⟨_, rfl⟩
end
end L2
namespace L2
open PySem PySem.Spec PyProof.Rows
structure ObjM (h : Heap) (x dx C : Addr) (mA : Str -> Option Value) : Prop where
  obj : h.get? x = some (PySem.W.instObj C dx)
  ns : h.Ns1 dx mA
  ne : dx ≠ x
theorem lookIn_ns {h : Heap} {dx : Addr} {mA : Str -> Option Value} (n : h.Ns1 dx mA) : ∃ od, h.get? dx = some od /\ ∀ name, PySem.W.lookIn name od = some (mA name) := by
  obtain ⟨o, es, ep, ho, hd, hk, _, hm⟩ := n
  refine ⟨o, ho, fun name => ?_⟩
  have e := hm name
  unfold nsFind findBy at e
  rw [<- Array.find?_toList] at e
  unfold PySem.W.lookIn
  rw [hd]
  dsimp only
  split
  · rename_i y q
    rw [q] at e
    exact congrArg some e
  · rename_i q
    rw [q] at e
    have a : es.toList.any (·.refKey) = false := by
      rw [List.any_eq_false]
      intro y hy
      obtain ⟨z, t, hkey⟩ := hk y (Array.mem_toList_iff.mp hy)
      simp [DictEntry.refKey, hkey]
    have a' : ¬ es.toList.any (·.refKey) = true := by rw [a]; exact Bool.false_ne_true
    rw [if_neg a']
    exact congrArg some e
theorem ObjM.look {h : Heap} {x dx C : Addr} {mA : Str -> Option Value} (I : ObjM h x dx C mA) : ∃ od, PySem.W.InstAt h x (PySem.W.instObj C dx) C (some od) /\ ∀ name, PySem.W.lookIn name od = some (mA name) :=
  let ⟨od, ho, hl⟩ := lookIn_ns I.ns
  ⟨od, ⟨I.obj, rfl, rfl, ho⟩, hl⟩
section
variable {prog : Program} {w : World} {A : Around} {E : Value -> Shared -> Prop} {s : Shared} {K : PySem.W.Frag} {x dx C f : Addr} {mA : Str -> Option Value} {name : Str} {v : Value}
theorem get_map {expr : Bool} {Q : Value -> Shared -> Prop} (X : K.In s.heap) (I : ObjM s.heap x dx C mA) (hg : PySem.W.plainGet K C name = true) (hh : PySem.W.hasDictIn K C = true)
    (ha : PySem.W.findIn K (.ref C) name = some none) (hv : mA name = some v) (hv' : PySem.W.handedIn v = true) (h : Q v { s with toks := s.toks + 1 }) :
    wpAny (model prog w) A (getAttr (.ref x) name expr) Q E s := by
  obtain ⟨od, J, hl⟩ := I.look
  exact PySem.W.get_value X J (PySem.W.plainGet_of hg).1 (PySem.W.findObj_own hh ha rfl (by rw [hl, hv])) hv' h
theorem get_meth {pl : Sem Bool} {Q : Value × List Value -> Shared -> Prop} (X : K.In s.heap) (I : ObjM s.heap x dx C mA) (hg : PySem.W.plainGet K C name = true)
    (hf : PySem.W.findIn K (.ref C) name = some (some (.ref f))) (ht : PySem.W.isFn K (.ref f) = true) (hv : mA name = none) (h : Q (.ref f, [.ref x]) s) :
    wpAny (model prog w) A (getMethod (.ref x) name pl) Q E s := by
  obtain ⟨od, J, hl⟩ := I.look
  exact PySem.W.method_fn X J (PySem.W.plainGet_of hg).1 (PySem.W.plainGet_of hg).2 hf (beq_iff_eq.mp ht) (by show (PySem.W.lookIn name od).map (·.isSome) = some false; rw [hl, hv]; rfl) h
theorem set_map {ns : List Str} {Q : Unit -> Shared -> Prop} (X : K.In s.heap) (I : ObjM s.heap x dx C mA)
    (hs : PySem.W.findIn K (.ref C) "__setattr__" = some (some (.builtin "object.__setattr__"))) (hp : PySem.W.plainOver K C = true) (ht : PySem.W.takerIn K C name = some none) (hh : PySem.W.hasDictIn K C = true)
    (hw : PySem.Within mA ns) (hsz : ns.length <= sizeLine)
    (h : ∀ h', ObjM h' x dx C (fun y => if y = name then some v else mA y) -> Heap.SameBut dx s.heap h' -> Q () { s with heap := h', toks := s.toks + 2 }) :
    wpAny (model prog w) A (setAttr (.ref x) name v) Q E s := by
  obtain ⟨od, J, hl⟩ := I.look
  refine PySem.W.set_plain X J hs (PySem.W.osa_open (s := { s with toks := s.toks + 1 }) (r := none) X J hp ht fun b => ?_)
  obtain ⟨cd, hc, hd'⟩ := PySem.W.any_some hh
  have hx : s.heap.get? x = some ⟨.ref C, some dx, .plain, #[]⟩ := I.obj
  refine wpAny_bind (wpAny_pure (wpAny_bind (wpAny_bind (wpAny_loadPart hx (wpAny_bind (PySem.W.Looks.here (s := { s with toks := s.toks + 1 }) (PySem.W.looks_clsIn X hc) ?_))))))
  rw [hd']
  refine wpAny_pure (a := some dx) (wpAny_bind (wpAny_pure (wpAny_bind ?_)))
  refine wpAny_nsSet1 (s := { s with toks := s.toks + 1 }) I.ns fun h' hn2 hs2 => ?_
  obtain ⟨oD, esD, epD, hoD, hdD, hcD⟩ := hn2.count (PySem.Within.cons name v hw)
  refine wpAny_bind (wpAny_lookBehind hoD (by rw [hdD]; exact pastItsLine_dict (Nat.le_trans hcD (by rw [List.length_cons]; omega))) ?_)
  exact wpAny_pure (h _ ⟨(hs2.2 _ (Ne.symm I.ne)).trans I.obj, hn2, I.ne⟩ hs2)
theorem make_map {R : Result -> Shared -> Prop} {vs : List Value} {kw : List (Str × Value)} (X : K.In s.heap) (hm : PySem.W.makesIn K C = true)
    (hi : PySem.W.findIn K (.ref C) "__init__" = some (some (.ref f))) (hf : PySem.W.typeIn K (.ref f) = some (.type "function"))
    (h : codeAny (model prog w) (A.under (.builtin "type.__call__" ⟨.ref C :: vs, kw⟩)) (.call (.ref f) ⟨.ref (s.heap.objs.size + 1) :: vs, kw⟩) (PySem.W.InitBack (s.heap.objs.size + 1) R)
      { s with heap := (s.heap.push PySem.W.emptyDict).push (PySem.W.instObj C s.heap.objs.size) }) :
    codeAny (model prog w) A (.call (.ref C) ⟨vs, kw⟩) R s := by
  obtain ⟨hh, g, d, t, os⟩ := s
  exact PySem.W.make_core (PySem.W.makes_of X hm) (PySem.W.looks_findIn X hi) (fun self => PySem.W.bind_fn X self hf) (.inl rfl) h
end
def putF (f : Str) (v : V) : List (Str × V) -> List (Str × V)
  | [] => [(f, v)]
  | (g, x) :: r => if g = f then (g, v) :: r else (g, x) :: putF f v r
theorem lookup_putF (f g : Str) (v : V) : ∀ fs : List (Str × V), (putF f v fs).lookup g = if g = f then some v else fs.lookup g
  | [] => by
    show List.lookup g [(f, v)] = _
    by_cases h : g = f
    · have hb : (g == f) = true := beq_iff_eq.mpr h
      simp only [List.lookup, hb, if_pos h]
    · have hb : (g == f) = false := beq_eq_false_iff_ne.mpr h
      simp only [List.lookup, hb, if_neg h]
  | (k, x) :: r => by
    have ih := lookup_putF f g v r
    rw [show putF f v ((k, x) :: r) = (if k = f then (k, v) :: r else (k, x) :: putF f v r) from rfl]
    by_cases hk : k = f
    · rw [if_pos hk]
      by_cases h : g = k
      · have hb : (g == k) = true := beq_iff_eq.mpr h
        simp only [List.lookup, hb, if_pos (h.trans hk)]
      · have hb : (g == k) = false := beq_eq_false_iff_ne.mpr h
        simp only [List.lookup, hb, if_neg (fun e : g = f => h (e.trans hk.symm))]
    · rw [if_neg hk]
      by_cases h : g = k
      · have hb : (g == k) = true := beq_iff_eq.mpr h
        simp only [List.lookup, hb, if_neg (fun e : g = f => hk (h.symm.trans e))]
      · have hb : (g == k) = false := beq_eq_false_iff_ne.mpr h
        simp only [List.lookup, hb]
        exact ih
theorem keys_putF (f : Str) (v : V) : ∀ fs : List (Str × V), f ∈ (putF f v fs).map (·.1) /\ ∀ g, g ∈ fs.map (·.1) -> g ∈ (putF f v fs).map (·.1)
  | [] => ⟨by simp [putF], fun g h => by simp at h⟩
  | (k, x) :: r => by
    obtain ⟨i1, i2⟩ := keys_putF f v r
    rw [show putF f v ((k, x) :: r) = (if k = f then (k, v) :: r else (k, x) :: putF f v r) from rfl]
    by_cases hk : k = f
    · rw [if_pos hk]
      subst hk
      exact ⟨by simp, fun g h => by simpa using h⟩
    · rw [if_neg hk]
      refine ⟨?_, fun g h => ?_⟩
      · rw [List.map_cons]
        exact List.mem_cons_of_mem _ i1
      · rw [List.map_cons] at h ⊢
        rcases List.mem_cons.mp h with e | e
        · exact List.mem_cons.mpr (.inl e)
        · exact List.mem_cons_of_mem _ (i2 g e)
theorem length_putF (f : Str) (v : V) : ∀ fs : List (Str × V), (putF f v fs).length <= fs.length + 1
  | [] => by simp [putF]
  | (k, x) :: r => by
    have ih := length_putF f v r
    rw [show putF f v ((k, x) :: r) = (if k = f then (k, v) :: r else (k, x) :: putF f v r) from rfl]
    by_cases hk : k = f
    · rw [if_pos hk, List.length_cons, List.length_cons]; omega
    · rw [if_neg hk, List.length_cons, List.length_cons]; omega
theorem RelO.some_of {v : V} {o : Option Value} (r : RelO (some v) o) : ∃ u, o = some u /\ zae v u := by
  cases o with
  | none => exact (show False from r).elim
  | some u => exact ⟨u, rfl, r⟩
theorem RelO.none_of {o : Option Value} (r : RelO none o) : o = none := by
  cases o with
  | none => rfl
  | some u => exact (show False from r).elim
theorem handed_of {v : V} {u : Value} (r : zae v u) : PySem.W.handedIn u = true := by
  cases v with
  | non => cases (show u = Value.none from r); rfl
  | bl b => cases (show u = Value.bool b from r); rfl
  | int i => obtain ⟨t, e⟩ := (show ∃ t, u = Value.int i t from r); cases e; rfl
  | str x => obtain ⟨t, e⟩ := (show ∃ t, u = Value.str x t from r); cases e; rfl
  | byt b => obtain ⟨t, e⟩ := (show ∃ t, u = Value.bytes b t from r); cases e; rfl
  | flt b => obtain ⟨t, e⟩ := (show ∃ t, u = Value.float b t from r); cases e; rfl
  | ref a => cases (show u = Value.ref a from r); rfl
  | ty n => cases (show u = Value.type n from r); rfl
section
variable {P : Program} {w : World} {H H' : Hp} {h h' : Heap} {a C dx : Addr} {fs fs' : List (Str × V)}
theorem ins_get (hok : HOk P w H h) (e : H a = some (.ins C dx fs)) : ∃ mA, ObjM h a dx C mA /\ (∀ f, RelO (fs.lookup f) (mA f)) /\ PySem.Within mA (fs.map (·.1)) /\ fs.length <= 1000 /\ H dx = some (.own a) := by
  obtain ⟨d, z, ne, ob, mA, n, r, q⟩ := (show zac P w H h a (.ins C dx fs) from hok a _ e)
  exact ⟨mA, ⟨ob, n, ne⟩, r, q, z, d⟩
end
structure Cls (K : PySem.W.Frag) (C : Addr) : Prop where
  pg : PySem.W.plainGet K C Str.empty = true
  hd : PySem.W.hasDictIn K C = true
  po : PySem.W.plainOver K C = true
  sa : PySem.W.findIn K (.ref C) "__setattr__" = some (some (.builtin "object.__setattr__"))
theorem Cls.get {K : PySem.W.Frag} {C : Addr} (c : Cls K C) (f : Str) : PySem.W.plainGet K C f = true := c.pg
def zab (K : PySem.W.Frag) (C : Addr) (f : Str) : Prop := PySem.W.findIn K (.ref C) f = some none
theorem zab.taker {K : PySem.W.Frag} {C : Addr} {f : Str} (n : zab K C f) : PySem.W.takerIn K C f = some none := by
  unfold PySem.W.takerIn
  rw [show PySem.W.findIn K (.ref C) f = some none from n]
  rfl
structure Con (K : PySem.W.Frag) (C : Addr) (f : Str) (v : V) (u : Value) : Prop where
  at_ : PySem.W.findIn K (.ref C) f = some (some u)
  rel : zae v u
  get : PySem.W.specialIn K u "__get__" = some none
  cp : PySem.W.copiedNames.contains f = false
structure Meth (K : PySem.W.Frag) (C : Addr) (m : Str) (f : Addr) : Prop where
  at_ : PySem.W.findIn K (.ref C) m = some (some (.ref f))
  fn : PySem.W.isFn K (.ref f) = true
  kp : PySem.W.keepIn K (.ref f) = true
section
variable {X : Cx} {pins : List (Addr × Obj)} {σ : St} {H : Hp} {s : Shared} {a C dx : Addr} {fs : List (Str × V)} {f : Str} {v : V} {A : Around} {E : Value -> Shared -> Prop}
theorem getattr_ok {b : Bool} {Q : Value -> Shared -> Prop} (I : Inv X pins σ H s) (e : H a = some (.ins C dx fs)) (c : Cls X.K C) (n : zab X.K C f) (l : fs.lookup f = some v)
    (h : ∀ u s', Inv X pins σ H s' -> zae v u -> Q u s') : wpAny (model X.prog X.w) A (getAttr (.ref a) f b) Q E s := by
  obtain ⟨mA, O, r, _, _, _⟩ := ins_get I.hok e
  obtain ⟨u, hu, ru⟩ := RelO.some_of (v := v) (o := mA f) (by rw [<- l]; exact r f)
  exact get_map I.kIn O (c.get f) c.hd n hu (handed_of ru) (h u _ (I.tok _) ru)
theorem getmeth_ok {m : Str} {g : Addr} {pl : Sem Bool} {Q : Value × List Value -> Shared -> Prop} (I : Inv X pins σ H s) (e : H a = some (.ins C dx fs)) (c : Cls X.K C) (k : Meth X.K C m g) (l : fs.lookup m = none)
    (h : Q (.ref g, [.ref a]) s) : wpAny (model X.prog X.w) A (getMethod (.ref a) m pl) Q E s := by
  obtain ⟨mA, O, r, _, _, _⟩ := ins_get I.hok e
  have hn : mA m = none := RelO.none_of (by rw [<- l]; exact r m)
  exact get_meth I.kIn O (c.get m) k.at_ k.fn hn h
theorem setattr_ok {y : V} {u : Value} {Q : Unit -> Shared -> Prop} (I : Inv X pins σ H s) (e : H a = some (.ins C dx fs)) (c : Cls X.K C) (n : zab X.K C f) (hl : fs.length < 1000) (ry : zae y u)
    (h : ∀ s', Inv X pins σ (upd H a (.ins C dx (putF f y fs))) s' -> Q () s') : wpAny (model X.prog X.w) A (setAttr (.ref a) f u) Q E s := by
  obtain ⟨mA, O, r, wi, _, ho⟩ := ins_get I.hok e
  have hz : (fs.map (·.1)).length <= sizeLine := by rw [List.length_map, sizeLine_eq]; omega
  refine set_map I.kIn O c.sa c.po n.taker c.hd wi hz fun h' O' sb => h _ ?_
  have hd : ∃ o, h'.get? dx = some o := let ⟨o, _, _, e', _⟩ := O'.ns; ⟨o, e'⟩
  refine I.write (x := a) (e := dx) (by rw [e]; exact True.intro) (.inr ho) (fun b q hb z => (sb.2 b hb).trans z) hd ?_
  refine ⟨by rw [upd_ne O.ne]; exact ho, ?_, O.ne, O'.obj, _, O'.ns, fun g => ?_, fun g hg => ?_⟩
  · have := length_putF f y fs; omega
  · show RelO ((putF f y fs).lookup g) (if g = f then some u else mA g)
    rw [lookup_putF]
    by_cases q : g = f
    · rw [if_pos q, if_pos q]; exact ry
    · rw [if_neg q, if_neg q]; exact r g
  · by_cases q : g = f
    · rw [q]; exact (keys_putF f y fs).1
    · refine (keys_putF f y fs).2 g (wi g fun z => hg ?_)
      show (if g = f then some u else mA g) = none
      rw [if_neg q]; exact z
theorem Inv.made (I : Inv X pins σ H s) : Inv X pins σ (upd (upd H s.heap.objs.size (.own (s.heap.objs.size + 1))) (s.heap.objs.size + 1) (.ins C s.heap.objs.size []))
    { s with heap := (s.heap.push PySem.W.emptyDict).push (PySem.W.instObj C s.heap.objs.size) } := by
  have e1 : (s.heap.push PySem.W.emptyDict).get? s.heap.objs.size = some PySem.W.emptyDict := Heap.get?_push_size s.heap rfl
  have e2 : ((s.heap.push PySem.W.emptyDict).push (PySem.W.instObj C s.heap.objs.size)).get? (s.heap.objs.size + 1) = some (PySem.W.instObj C s.heap.objs.size) := by
    have := Heap.get?_push_size (s.heap.push PySem.W.emptyDict) (o := PySem.W.instObj C s.heap.objs.size) rfl
    rwa [Heap.size_push] at this
  have e3 : (s.heap.push PySem.W.emptyDict).Ns s.heap.objs.size (fun _ => none) := ⟨PySem.W.emptyDict, #[], _, e1, rfl, (fun e he => absurd he (by simp)), fun _ => rfl⟩
  have I1 := I.laid (a := s.heap.objs.size) (o := .own (s.heap.objs.size + 1)) (h' := s.heap.push PySem.W.emptyDict) (t' := s.toks) (fun b u q => Heap.get?_push_of_some _ q) (Nat.le_refl _) ⟨_, e1⟩
  refine I1.laid (a := s.heap.objs.size + 1) (o := .ins C s.heap.objs.size []) (t' := s.toks) (fun b u q => Heap.get?_push_of_some _ q) (Nat.le_of_eq (Heap.size_push _ _)) ?_
  have ne : s.heap.objs.size ≠ s.heap.objs.size + 1 := Nat.ne_of_lt (Nat.lt_succ_self _)
  refine ⟨by rw [upd_ne ne, upd_same], Nat.zero_le _, ne, e2, fun _ => none, (Heap.Ns1.of_empty e3).at fun o q => Heap.get?_push_of_some _ q, fun _ => True.intro, fun y hy => absurd rfl hy⟩
theorem attr_of {prog : Program} {w : World} {env : Env} {e : Expr} {f : Str} {pos : Pos} {s : Shared} {Q : Value -> Shared -> Prop} (hb : attributeBase e f env (eval e env) = eval e env)
    (h : wpAny (model prog w) A (eval e env) (fun o s₁ => wpAny (model prog w) A (getAttr o f true) Q E s₁) E s) : wpAny (model prog w) A (eval (.Attribute e f pos) env) Q E s :=
  Attribute_any_ h (by rw [arm_eval_Attribute, hb])
end
def tFld (K : PySem.W.Frag) (ta : TE) (f : Str) : TE := fun σ H Q => ta σ H fun x H1 => ∃ a C dx fs v, x = .ref a /\ H1 a = some (.ins C dx fs) /\ Cls K C /\ zab K C f /\ fs.lookup f = some v /\ Q v H1
def sFld (K : PySem.W.Frag) (ta tv : TE) (f : Str) : TS := fun D σ H => tv σ H fun y H1 => ta σ H1 fun x H2 => ∃ a C dx fs, x = .ref a /\ H2 a = some (.ins C dx fs) /\ Cls K C /\ zab K C f /\ fs.length < 1000 /\
  D.nx σ (upd H2 a (.ins C dx (putF f y fs)))
def InOp (X : Cx) (op : Operator) (rd : V -> V -> Hp -> VK -> Prop) : Prop :=
  ∀ (pins : List (Addr × Obj)) (s : Shared) (σ : St) (H : Hp) (x y : V) (u v : Value) (Q : VK), Inv X pins σ H s -> zae x u -> zae y v -> rd x y H Q -> wpAny (model X.prog X.w) X.A (inplaceOp op u v) (EP X pins σ Q) X.xe s
def sFldAug (K : PySem.W.Frag) (ta tv : TE) (rd : V -> V -> Hp -> VK -> Prop) (f : Str) : TS := fun D σ H => ta σ H fun x H1 => ∃ a C dx fs v, x = .ref a /\ H1 a = some (.ins C dx fs) /\ Cls K C /\ zab K C f /\ fs.lookup f = some v /\
  tv σ H1 fun y H2 => rd v y H2 fun z H3 => ∃ dx' fs', H3 a = some (.ins C dx' fs') /\ fs'.length < 1000 /\ D.nx σ (upd H3 a (.ins C dx' (putF f z fs')))
section
variable {X : Cx} {o e value : Expr} {f : Str} {pos pos' tpos : Pos} {ta tv : TE}
theorem pe_fld (he : PE X e ta) (hb : attributeBase e f X.env (eval e X.env) = eval e X.env) : PE X (.Attribute e f pos) (tFld X.K ta f) := by
  intro pins s σ H Q I h
  refine attr_of hb (thn (he pins s σ H _ I h) fun u s1 ⟨x, H1, I1, rx, a, C, dx, fs, v, ex, ea, c, n, l, q⟩ => ?_)
  subst ex
  obtain rfl : u = Value.ref a := rx
  exact getattr_ok I1 ea c n l fun u' s2 I2 ru => ⟨v, H1, I2, ru, q⟩
theorem ps_fld (ha : PE X o ta) (hv : PE X value tv) (hs : swapsWith value (some (.Attribute o f pos')) pos.line X.env = pure false) : PS X (.Assign [.Attribute o f pos'] value pos) (sFld X.K ta tv f) := by
  intro pins s σ H D I h
  refine plainObj_wpAny_Assign_Attribute (thn (hv pins s σ H _ I h) fun u s1 ⟨y, H1, I1, ry, q⟩ => thn (ha pins s1 σ H1 _ I1 q) fun ov s2 ⟨x, H2, I2, rx, a, C, dx, fs, ex, ea, c, n, l, q2⟩ => ?_) hs
  subst ex
  obtain rfl : ov = Value.ref a := rx
  exact setattr_ok I2 ea c n l ry fun s3 I3 => ⟨σ, _, I3, q2⟩
theorem ps_fldaug {op : Operator} {rd : V -> V -> Hp -> VK -> Prop} (ha : PE X o ta) (hv : PE X value tv) (hop : InOp X op rd) : PS X (.AugAssign (.Attribute o f tpos) op value pos) (sFldAug X.K ta tv rd f) := by
  intro pins s σ H D I h
  refine wpAny_AugAssign_AttributeAny (thn (ha pins s σ H _ I h) fun ov s1 ⟨x, H1, I1, rx, a, C, dx, fs, v, ex, ea, c, n, l, q⟩ => ?_)
  subst ex
  obtain rfl : ov = Value.ref a := rx
  refine getattr_ok I1 ea c n l fun u s2 I2 ru => thn (hv pins s2 σ H1 _ I2 q) fun w3 s3 ⟨y, H2, I3, ry, q3⟩ => thn (hop pins s3 σ H2 v y u w3 _ I3 ru ry q3) fun w4 s4 ⟨z, H3, I4, rz, dx', fs', ea', l', q4⟩ => ?_
  exact setattr_ok I4 ea' c n l' rz fun s5 I5 => ⟨σ, _, I5, q4⟩
def rAdd : V -> V -> Hp -> VK -> Prop := fun x y H Q => ∃ i j, x = .int i /\ y = .int j /\ Q (.int (i + j)) H
theorem in_add : InOp X .Add rAdd := by
  rintro pins s σ H x y u v Q I rx ry ⟨i, j, rfl, rfl, q⟩
  obtain ⟨t, rfl⟩ := (show ∃ t, u = Value.int i t from rx)
  obtain ⟨t', rfl⟩ := (show ∃ t', v = Value.int j t' from ry)
  exact PyProof.Rows.iadd_int ⟨.int (i + j), H, I.tok _, ⟨_, rfl⟩, q⟩
end
section
variable {X : Cx} {pins : List (Addr × Obj)} {σ : St} {H : Hp} {s : Shared} {A : Around} {E : Value -> Shared -> Prop} {Q : Value -> Shared -> Prop} {c : Value} {b : Bool}
inductive TyOf (K : PySem.W.Frag) (H : Hp) : V -> Value -> Prop where
  | non : TyOf K H .non (.type "NoneType")
  | bl (x : Bool) : TyOf K H (.bl x) (.type "bool")
  | int (i : Int) : TyOf K H (.int i) (.type "int")
  | str (x : Str) : TyOf K H (.str x) (.type "str")
  | flt (x : UInt64) : TyOf K H (.flt x) (.type "float")
  | lst {a : Addr} {xs : List V} (e : H a = some (.lst xs)) : TyOf K H (.ref a) (.type "list")
  | frz {a : Addr} {o : Obj} {xs : List V} (e : H a = some (.frz o (.lst xs))) : TyOf K H (.ref a) (.type "list")
  | tup {a : Addr} {xs : List V} (e : H a = some (.tup xs)) : TyOf K H (.ref a) (.type "tuple")
  | dK {a : Addr} {kvs : List (Key × V)} (e : H a = some (.dK kvs)) : TyOf K H (.ref a) (.type "dict")
  | dT {a : Addr} {kvs : List (List Key × V)} (e : H a = some (.dT kvs)) : TyOf K H (.ref a) (.type "dict")
  | ins {a C dx : Addr} {fs : List (Str × V)} (e : H a = some (.ins C dx fs)) (cl : Cls K C) (ha : PySem.W.findIn K (.ref C) "__class__" = some (some (.builtin "object.__class__")))
      (hn : PySem.W.specialIn K (.builtin "object.__class__") "__get__" = some (some (.builtin "getset_descriptor.__get__"))) (htk : PySem.W.takesIn K (.builtin "object.__class__") = some true)
      (hm : PySem.W.mroIn K C (.type "object") = some true) : TyOf K H (.ref a) (.ref C)
theorem isinst_ok {x : V} {u t : Value} (I : Inv X pins σ H s) (rx : zae x u) (ty : TyOf X.K H x t) (e : PySem.W.kitOne X.K t c = some b) (h : ∀ tk, Q (.bool b) { s with toks := tk }) :
    wpAny (model X.prog X.w) A (call (.builtin "isinstance") [u, c]) Q E s := by
  cases ty with
  | non => cases (show u = Value.none from rx); exact PySem.W.kia_one PySem.W.kitx_none I.kIn True.intro e (fun z => nomatch z) h
  | bl y => cases (show u = Value.bool y from rx); exact PySem.W.kia_one PySem.W.kitx_bool I.kIn True.intro e (fun z => nomatch z) h
  | int i => obtain ⟨t, q⟩ := (show ∃ t, u = Value.int i t from rx); cases q; exact PySem.W.kia_one PySem.W.kitx_int I.kIn True.intro e (fun z => nomatch z) h
  | str y => obtain ⟨t, q⟩ := (show ∃ t, u = Value.str y t from rx); cases q; exact PySem.W.kia_one PySem.W.kitx_str I.kIn True.intro e (fun z => nomatch z) h
  | flt y => obtain ⟨t, q⟩ := (show ∃ t, u = Value.float y t from rx); cases q; exact PySem.W.kia_one PySem.W.kitx_float I.kIn True.intro e (fun z => nomatch z) h
  | @lst a xs ea =>
    cases (show u = Value.ref a from rx)
    obtain ⟨_, _, n, _, h1⟩ := (show zac X.prog X.w H s.heap a (.lst xs) from I.hok a _ ea)
    exact PySem.W.kia_one PySem.W.kitx_list I.kIn ⟨_, h1, rfl⟩ e (fun z => nomatch z) h
  | @frz a ob xs ea =>
    cases (show u = Value.ref a from rx)
    obtain ⟨_, _, _, n, _, h1⟩ := (show zac X.prog X.w H s.heap a (.frz ob (.lst xs)) from I.hok a _ ea)
    exact PySem.W.kia_one PySem.W.kitx_list I.kIn ⟨_, h1, rfl⟩ e (fun z => nomatch z) h
  | @tup a xs ea =>
    cases (show u = Value.ref a from rx)
    obtain ⟨_, _, _, p⟩ := (show zac X.prog X.w H s.heap a (.tup xs) from I.hok a _ ea)
    obtain ⟨o, h1, h2, _⟩ := p
    exact PySem.W.kia_one PySem.W.kitx_tuple I.kIn ⟨o, h1, h2⟩ e (fun z => nomatch z) h
  | @dK a kvs ea =>
    cases (show u = Value.ref a from rx)
    obtain ⟨_, _, vs, _, p⟩ := (show zac X.prog X.w H s.heap a (.dK kvs) from I.hok a _ ea)
    obtain ⟨o, es, ep, h1, h2, _⟩ := p
    exact PySem.W.kia_one PySem.W.kitx_dict I.kIn ⟨o, h1, h2.1⟩ e (fun z => nomatch z) h
  | @dT a kvs ea =>
    cases (show u = Value.ref a from rx)
    obtain ⟨_, _, xs, _, o, es, ep, h1, h2, _⟩ := (show zac X.prog X.w H s.heap a (.dT kvs) from I.hok a _ ea)
    exact PySem.W.kia_one PySem.W.kitx_dict I.kIn ⟨o, h1, h2.1⟩ e (fun z => nomatch z) h
  | @ins a C dx fs ea cl ha hn htk hm =>
    cases (show u = Value.ref a from rx)
    obtain ⟨mA, O, _⟩ := ins_get I.hok ea
    obtain ⟨od, J, _⟩ := O.look
    exact PySem.W.kia_one (PySem.W.kitx_own (cl.get _) cl.hd ha hn htk hm) I.kIn J e (fun z => nomatch z) h
end
end L2
namespace L2
open PySem PySem.Spec PyProof.Rows
structure Room (k : Nat) (A : Around) : Prop where
  hd : A.handled = none
  dp : A.depth + 3 * k + 5 < recursionLimit
  un : A.units + 16 * k + 200 < cLine
theorem Room.mono {j k : Nat} {A : Around} (r : Room k A) (h : j <= k) : Room j A := ⟨r.hd, by have := r.dp; omega, by have := r.un; omega⟩
theorem Room.deeper {k : Nat} {A : Around} (r : Room (k + 1) A) (env : Env) : Room k (A.deeper env) :=
  ⟨r.hd, by have := r.dp; show A.depth + 1 + 3 * k + 5 < _; omega, by have := r.un; show A.units + 3 + 16 * k + 200 < _; omega⟩
theorem Room.in1 {k : Nat} {A : Around} (r : Room (k + 1) A) : Room k A.in1 :=
  ⟨r.hd, by have := r.dp; show A.depth + 3 * k + 5 < _; omega, by have := r.un; show A.units + 1 + 16 * k + 200 < _; omega⟩
theorem make_depth {A : Around} {C : Addr} {us : List Value} {kw : List (Str × Value)} : (A.under (.builtin "type.__call__" ⟨.ref C :: us, kw⟩)).depth = A.depth + 1 := by
  first | rfl | simp [Around.under, Code.weight, Code.isCreation, Code.isGuard, Code.isCaller, Code.frames, Code.isFrame, guardIds]
theorem make_units {A : Around} {C : Addr} {us : List Value} {kw : List (Str × Value)} : (A.under (.builtin "type.__call__" ⟨.ref C :: us, kw⟩)).units = A.units + 1 := by
  first | rfl | simp [Around.under, Code.cUnits, Code.frames, Code.isFrame]
theorem Room.make {k : Nat} {A : Around} (r : Room (k + 1) A) (C : Addr) (us : List Value) (kw : List (Str × Value)) : Room k (A.under (.builtin "type.__call__" ⟨.ref C :: us, kw⟩)) :=
  ⟨r.hd, by have := r.dp; rw [make_depth]; omega, by have := r.un; rw [make_units]; omega⟩
theorem Room.depth {k : Nat} {A : Around} (r : Room k A) : A.depth < recursionLimit := by have := r.dp; omega
theorem Room.units {k : Nat} {A : Around} (r : Room k A) : A.units + 64 < cLine := by have := r.un; omega
def tNil : TA := fun _ H Q => Q [] H
def tCons (ta : TE) (tr : TA) : TA := fun σ H Q => ta σ H fun x H1 => tr σ H1 fun xs H2 => Q (x :: xs) H2
section
variable {X : Cx} {e : Expr} {es : List Expr} {te : TE} {t : TA} {pos : Pos}
theorem pa_nil : PA X [] tNil := fun _ _ _ _ H Q I h => Calls.spliced_nil ⟨[], H, I, .nil, h⟩
theorem pa_cons (ha : PE X e te) (hr : PA X es t) (hs : starEach (e :: es) X.env = (false, eval e X.env) :: starEach es X.env := by rfl) : PA X (e :: es) (tCons te t) := by
  intro pos pins s σ H Q I h
  rw [hs]
  show wpAny _ _ (spliced ((false, eval e X.env) :: backTo pos (starEach es X.env))) _ _ s
  refine Calls.spliced_cons (thn (ha pins s σ H _ I h) fun u s1 ⟨x, H1, I1, r1, q1⟩ => ?_)
  exact thn (hr pos pins s1 σ H1 _ I1 q1) fun us s2 ⟨xs, H2, I2, r2, q2⟩ => ⟨x :: xs, H2, I2, .cons r1 r2, q2⟩
def tTup (t : TA) : TE := fun σ H Q => t σ H fun xs H1 => xs.length <= sizeLine /\ ∀ p, H1 p = none -> Q (.ref p) (upd H1 p (.tup xs))
def tLst (t : TA) : TE := fun σ H Q => t σ H fun xs H1 => xs.length <= sizeLine /\ ∀ p, H1 p = none -> Q (.ref p) (upd H1 p (.lst xs))
theorem pe_tup {x1} (h : PA X es t) : PE X (.Tuple es x1 pos) (tTup t) := by
  intro pins s σ H Q I hq
  refine wpAny_Tuple_spliced (thn (h pos pins s σ H _ I hq) fun us s1 ⟨xs, H1, I1, r, z, q⟩ => ⟨by rw [<- r.length]; exact z, ?_⟩)
  have hf : H1 s1.heap.objs.size = none := I1.hok.fresh (Nat.le_refl _)
  refine ⟨.ref s1.heap.objs.size, upd H1 s1.heap.objs.size (.tup xs), I1.laid (t' := s1.toks) (fun b u e => Heap.get?_push_of_some _ e) (Nat.le_refl _) ?_, rfl, q _ hf⟩
  exact ⟨z, us, r, ⟨_, Heap.get?_push_size _ rfl, rfl, _, rfl⟩⟩
theorem pe_lst (h : PA X es t) : PE X (.List es pos) (tLst t) := by
  intro pins s σ H Q I hq
  refine wpAny_List_spliced (thn (h pos pins s σ H _ I hq) fun us s1 ⟨xs, H1, I1, r, z, q⟩ => ⟨by rw [<- r.length]; exact z, ?_⟩)
  have hf : H1 s1.heap.objs.size = none := I1.hok.fresh (Nat.le_refl _)
  refine ⟨.ref s1.heap.objs.size, upd H1 s1.heap.objs.size (.lst xs), I1.laid (t' := s1.toks) (fun b u e => Heap.get?_push_of_some _ e) (Nat.le_refl _) ?_, rfl, q _ hf⟩
  exact ⟨z, us, 0, r, Heap.get?_push_size _ rfl⟩
end
abbrev Sp := List V -> Hp -> VK -> XK -> Prop
abbrev CXT := List Env -> Hp -> Shared -> XK -> Value -> Shared -> Prop
structure Env0 (P : Program) (w : World) (K : PySem.W.Frag) (mg : Str -> Option Value) (base : Heap) (A : Around) (outer : List Env) (s : Shared) (H : Hp) : Prop where
  frames : A.frames = some outer
  mod : Mod K mg base
  bs : ∀ b o, base.get? b = some o -> s.heap.get? b = some o /\ H b = none
  bsz : base.objs.size <= s.heap.objs.size
  funs : s.heap.FunFrames base outer
  frf : ∀ b ∈ frs outer, H b = none
  hok : HOk P w H s.heap
  bare : AllBare s.gens
def CE (outer : List Env) (P : Program) (w : World) (H : Hp) (s : Shared) (Q : VK) (u : Value) (s' : Shared) : Prop :=
  ∃ v H', s'.os = s.os /\ AllBare s'.gens /\ Un (frs outer) [] H H' s.heap s'.heap /\ HOk P w H' s'.heap /\ zae v u /\ Q v H'
def CR (CX : CXT) (outer : List Env) (P : Program) (w : World) (H : Hp) (s : Shared) (Q : VK) (E : XK) (r : Result) (s' : Shared) : Prop :=
  match r with
  | .ok (.ret u) => CE outer P w H s Q u s'
  | .ok _ => False
  | .error e => CX outer H s E e s'
structure FnOk (P : Program) (w : World) (K : PySem.W.Frag) (mg : Str -> Option Value) (base : Heap) (CX : CXT) (k : Nat) (f : Addr) (fd : FuncData) (ps : List Str) (sp : Sp) : Prop where
  len : ∀ vs H Q E, sp vs H Q E -> vs.length = ps.length
  run : ∀ (A : Around) (outer : List Env) (s : Shared) (H : Hp) (args : Args) (us : List Value) (vs : List V) (Q : VK) (E : XK), Room k A -> Env0 P w K mg base A outer s H -> BindsTo s fd args (ps.zip us) -> zag vs us -> sp vs H Q E ->
    codeAny (model P w) A (.call (.ref f) args) (CR CX outer P w H s Q E) s
theorem FnOk.mono {P : Program} {w : World} {K : PySem.W.Frag} {mg : Str -> Option Value} {base : Heap} {CX : CXT} {j k : Nat} {f : Addr} {fd : FuncData} {ps : List Str} {sp : Sp} (F : FnOk P w K mg base CX j f fd ps sp) (h : j <= k) :
    FnOk P w K mg base CX k f fd ps sp := ⟨F.len, fun A outer s H args us vs Q E hr => F.run A outer s H args us vs Q E (hr.mono h)⟩
theorem FnOk.imp {P : Program} {w : World} {K : PySem.W.Frag} {mg : Str -> Option Value} {base : Heap} {CX : CXT} {k : Nat} {f : Addr} {fd : FuncData} {ps : List Str} {sp sp' : Sp} (F : FnOk P w K mg base CX k f fd ps sp)
    (h : ∀ vs H Q E, sp' vs H Q E -> sp vs H Q E) : FnOk P w K mg base CX k f fd ps sp' :=
  ⟨fun vs H Q E q => F.len vs H Q E (h _ _ _ _ q), fun A outer s H args us vs Q E hr he hb hv hs => F.run A outer s H args us vs Q E hr he hb hv (h _ _ _ _ hs)⟩
theorem Env0.make {P : Program} {w : World} {K : PySem.W.Frag} {mg : Str -> Option Value} {base : Heap} {A : Around} {outer : List Env} {s : Shared} {H : Hp} (e : Env0 P w K mg base A outer s H) (C : Addr) (us : List Value) (kw : List (Str × Value)) :
    Env0 P w K mg base (A.under (.builtin "type.__call__" ⟨.ref C :: us, kw⟩)) outer s H := ⟨by first | exact e.frames | (simpa [Around.under, Code.envs, Code.isFrame, pushEnvs] using e.frames), e.mod, e.bs, e.bsz, e.funs, e.frf, e.hok, e.bare⟩
theorem Env0.in1 {P : Program} {w : World} {K : PySem.W.Frag} {mg : Str -> Option Value} {base : Heap} {A : Around} {outer : List Env} {s : Shared} {H : Hp} (e : Env0 P w K mg base A outer s H) :
    Env0 P w K mg base A.in1 outer s H := ⟨e.frames, e.mod, e.bs, e.bsz, e.funs, e.frf, e.hok, e.bare⟩
section
variable {X : Cx} {pins : List (Addr × Obj)} {σ : St} {H : Hp} {s s' : Shared}
theorem Inv.env0 (I : Inv X pins σ H s) : Env0 X.prog X.w X.K X.mg X.base X.A X.stack s H :=
  ⟨I.ok.frames, I.ok.mod, I.bs, Nat.le_trans I.ok.bsz I.sz, I.stack, I.stkFree, I.hok, I.bare⟩
theorem Inv.after {Q : VK} {u : Value} (I : Inv X pins σ H s) (h : CE X.stack X.prog X.w H s Q u s') : EP X pins σ Q u s' := by
  obtain ⟨v, H', os, bare, un, hok, r, q⟩ := h
  obtain ⟨hh, g, d, t, os'⟩ := s'
  obtain rfl : os' = s.os := os
  exact ⟨v, H', I.call (h' := hh) (g' := g) (d' := d) (t' := t) (ch := []) un hok bare (fun b z => absurd z (by simp)), r, q⟩
end
def Binds (K : PySem.W.Frag) (fd : FuncData) (ps : List Str) (ds : List Value) : Prop :=
  ∀ (s : Shared) (us : List Value), K.In s.heap -> (us ++ ds).length = ps.length -> BindsTo s fd ⟨us, []⟩ (ps.zip (us ++ ds))
theorem Binds.all {K : PySem.W.Frag} {fd : FuncData} {ps : List Str} (h : ∀ us : List Value, us.length = ps.length -> bindArgs fd ⟨us, []⟩ = pure (ps.zip us)) : Binds K fd ps [] := fun s us _ hl => by
  rw [List.append_nil] at hl ⊢
  exact .of_eq (h us hl)
section
variable {X : Cx} {CX : CXT} {k : Nat} {f C : Addr} {fd : FuncData} {ps : List Str} {sp : Sp} {dvs : List V} {ds : List Value} {E : XK} {x m : Str} {p pos apos : Pos} {e o : Expr} {es : List Expr} {ta : TE} {t : TA}
structure Mk (K : PySem.W.Frag) (C f : Addr) : Prop where
  makes : PySem.W.makesIn K C = true
  init : PySem.W.findIn K (.ref C) "__init__" = some (some (.ref f))
  fn : PySem.W.isFn K (.ref f) = true
  kp : PySem.W.keepIn K (.ref C) = true
end
section
variable {X : Cx} {CX : CXT} {k : Nat} {f C : Addr} {fd : FuncData} {ps ks : List Str} {sp : Sp} {E : XK} {x m : Str} {p pos apos kpos : Pos} {e o : Expr} {es : List Expr} {kws : List Keyword} {te ta : TE} {t tk : TA} {nm : Option Str}
structure KBinds (K : PySem.W.Frag) (fd : FuncData) (ps ks : List Str) (g : List Value -> List Value -> List Value) (gV : List V -> List V -> List V) : Prop where
  to : ∀ (s : Shared) (us ws : List Value), K.In s.heap -> (g us ws).length = ps.length -> BindsTo s fd ⟨us, ks.zip ws⟩ (ps.zip (g us ws))
  rel : ∀ {vs : List V} {us : List Value} {zs : List V} {ws : List Value}, zag vs us -> zag zs ws -> zag (gV vs zs) (g us ws)
variable {g : List Value -> List Value -> List Value} {gV : List V -> List V -> List V}
end
structure FnScope (N P : List Str) (sc : Scope) : Prop where
  kind : sc.kind = .function
  co : sc.isCoroutine = false
  gen : sc.isGenerator = false
  nd : N.Nodup
  pre : N.take P.length = P
  par : ∀ x ∈ P, sc.names.lookup x = some .local \/ sc.names.lookup x = some .cell
  nofree : ∀ y ∈ sc.names, y.2 ≠ .free
theorem bindL_out {kindOf : Str -> Option NameKind} {x : Str} : ∀ {binds : List (Str × Value)} {m : Str -> Option Value}, (∀ v, (x, v) ∉ binds) -> bindL kindOf binds m x = m x
  | [], _, _ => rfl
  | (n, v) :: r, m, h => by
    unfold bindL
    rw [bindL_out fun w hw => h w (List.mem_cons_of_mem _ hw)]
    split
    · have : x ≠ n := by rintro rfl; exact h v List.mem_cons_self
      simp [this]
    · rfl
theorem bindC_out {kindOf : Str -> Option NameKind} {x : Str} : ∀ {binds : List (Str × Value)} {m : Str -> Option Value}, (∀ v, (x, v) ∉ binds) -> bindC kindOf binds m x = m x
  | [], _, _ => rfl
  | (n, v) :: r, m, h => by
    unfold bindC
    rw [bindC_out fun w hw => h w (List.mem_cons_of_mem _ hw)]
    split
    · rfl
    · have : x ≠ n := by rintro rfl; exact h v List.mem_cons_self
      simp [this]
theorem bindL_get {kindOf : Str -> Option NameKind} {x : Str} {v : Value} : ∀ {P : List Str} {vs : List Value} {i : Nat} {m : Str -> Option Value}, P.Nodup -> P[i]? = some x -> vs[i]? = some v -> kindOf x = some .local ->
    bindL kindOf (P.zip vs) m x = some v
  | [], _, _, _, _, h, _, _ => by simp at h
  | _ :: _, [], _, _, _, _, h, _ => by simp at h
  | p :: P, w :: vs, 0, m, nd, h1, h2, hk => by
    simp at h1 h2; subst h1; subst h2
    show bindL kindOf ((p, w) :: P.zip vs) m p = _
    unfold bindL
    rw [bindL_out fun v hv => (List.nodup_cons.mp nd).1 (List.of_mem_zip hv).1, if_pos hk]
    simp
  | p :: P, w :: vs, i + 1, m, nd, h1, h2, hk => by
    show bindL kindOf ((p, w) :: P.zip vs) m x = _
    unfold bindL
    exact bindL_get (i := i) (List.nodup_cons.mp nd).2 (by simpa using h1) (by simpa using h2) hk
theorem bindC_get {kindOf : Str -> Option NameKind} {x : Str} {v : Value} : ∀ {P : List Str} {vs : List Value} {i : Nat} {m : Str -> Option Value}, P.Nodup -> P[i]? = some x -> vs[i]? = some v -> kindOf x ≠ some .local ->
    bindC kindOf (P.zip vs) m x = some v
  | [], _, _, _, _, h, _, _ => by simp at h
  | _ :: _, [], _, _, _, _, h, _ => by simp at h
  | p :: P, w :: vs, 0, m, nd, h1, h2, hk => by
    simp at h1 h2; subst h1; subst h2
    show bindC kindOf ((p, w) :: P.zip vs) m p = _
    unfold bindC
    rw [bindC_out fun v hv => (List.nodup_cons.mp nd).1 (List.of_mem_zip hv).1, if_neg hk]
    simp
  | p :: P, w :: vs, i + 1, m, nd, h1, h2, hk => by
    show bindC kindOf ((p, w) :: P.zip vs) m x = _
    unfold bindC
    exact bindC_get (i := i) (List.nodup_cons.mp nd).2 (by simpa using h1) (by simpa using h2) hk
def start (N : List Str) (vs : List V) : St := vs.map some ++ List.replicate (N.length - vs.length) none
def cxOf (CX : CXT) (P : Program) (w : World) (K : PySem.W.Frag) (mg : Str -> Option Value) (base : Heap) (N : List Str) (qual : Str) (scope : Scope) (f : Addr) (cd : Value) (A : Around) (outer : List Env) (s : Shared) (H : Hp) (E : XK) : Cx where
  prog := P
  w := w
  K := K
  mg := mg
  base := base
  A := A.deeper (envOfC qual scope s.heap.objs.size f cd)
  N := N
  s₀ := s
  H₀ := H
  env := envOfC qual scope s.heap.objs.size f cd
  outer := outer
  stack := envOfC qual scope s.heap.objs.size f cd :: outer
  ex := []
  calm := true
  fn := fun _ => true
  pn := []
  xe := fun e s' => wpAny (model P w) (A.deeper (envOfC qual scope s.heap.objs.size f cd)) (leaving (envOfC qual scope s.heap.objs.size f cd) e) (fun _ s'' => CX outer H s E e s'') (fun e' s'' => CX outer H s E e' s'') s'
theorem cell_has {sc : Scope} {n : Nat} {x : Str} (h : sc.names.lookup x = some .cell) : ∃ c, (cellsFrom n sc.names []).lookup x = some c := by
  have q := PySem.W.cellsFrom_some sc.names n [] (.inl h)
  exact Option.isSome_iff_exists.mp q
theorem inv_start {CX : CXT} {P : Program} {w : World} {K : PySem.W.Frag} {mg : Str -> Option Value} {base : Heap} {N ps : List Str} {qual : Str} {scope : Scope} {f : Addr} {cd : Value} {A : Around} {outer : List Env} {s s1 : Shared} {H : Hp} {E : XK} {us : List Value} {vs : List V}
    (S : FnScope N ps scope) (hd : A.handled = none) (e0 : Env0 P w K mg base A outer s H) (hl : vs.length = ps.length) (r : zag vs us)
    (x : InCallC s s.heap.objs.size (bindL (envOfC qual scope s.heap.objs.size f cd).kindOf (ps.zip us) fun _ => none) (cellsFrom (s.heap.objs.size + 1) scope.names []) (bindC (envOfC qual scope s.heap.objs.size f cd).kindOf (ps.zip us) fun _ => none) s1) :
    Inv (cxOf CX P w K mg base N qual scope f cd A outer s H E) [] (start N vs) H s1 := by
  have hpl : ps.length <= N.length := by have := congrArg List.length S.pre; rw [List.length_take] at this; omega
  obtain ⟨h1, tk, rfl, hk⟩ := x.done
  have noA : ∀ b : Addr, b ∉ (cxOf CX P w K mg base N qual scope f cd A outer s H E).ex := fun b z => absurd (show b ∈ ([] : List Addr) from z) (by simp)
  refine ⟨⟨e0.mod, S.kind, rfl, rfl, Nat.le_refl _, fun y z c h1 h2 => ?_, fun y hy => ?_, fun y c _ h => ?_, fun _ => hd, Around.frames_deeper e0.frames, .inr ⟨rfl, rfl⟩, fun b z => absurd z (noA b), e0.bs, e0.bsz, fun b _ _ => noA b, fun b z => absurd z (noA b), e0.funs, e0.frf⟩,
    rfl, e0.bare, Un.kept hk, ⟨_, x.toInCall.ns, fun i y v h1 h2 h3 => ?_⟩, fun y c h => ⟨_, x.cell y c h⟩, e0.hok.fresh (Nat.le_refl _), fun y c h => ?_, fun p hp => absurd (show p ∈ ([] : List (Addr × Obj)) from hp) (by simp), e0.hok.kept hk, ?_⟩
  · exact name_of_addr x.apart (PySem.mem_of_lookup h1) (PySem.mem_of_lookup h2)
  · have hy : scope.names.lookup y = some .cell \/ scope.names.lookup y = some .free := hy
    rcases hy with hy | hy
    · exact cell_has hy
    · exact absurd rfl (S.nofree _ (PySem.mem_of_lookup hy))
  · exact Nat.le_of_lt (x.above y c (PySem.mem_of_lookup h))
  · have hi : i < vs.length := by
      unfold start at h2
      by_cases hi : i < vs.length
      · exact hi
      · rw [List.getElem?_append_right (by simpa using hi)] at h2
        rw [List.getElem?_replicate] at h2
        split at h2 <;> cases h2
    have ha : vs[i]? = some v := by
      unfold start at h2
      rw [List.getElem?_append_left (by simpa using hi), List.getElem?_map] at h2
      cases e : vs[i]? with
      | none => rw [e] at h2; cases h2
      | some a => rw [e] at h2; cases h2; rfl
    obtain ⟨u, hu, rv⟩ := r.get ha
    have hp : ps[i]? = some y := by
      rw [<- S.pre, List.getElem?_take_of_lt (by omega)]; exact h1
    have ndP : ps.Nodup := by rw [<- S.pre]; exact S.nd.sublist (List.take_sublist _ _)
    refine ⟨u, rv, ?_⟩
    rcases S.par y (List.mem_of_getElem? hp) with k | k
    · exact .inl ⟨k, bindL_get ndP hp hu k⟩
    · obtain ⟨c, e⟩ := cell_has (n := s.heap.objs.size + 1) k
      refine .inr ⟨.inl k, c, e, ?_⟩
      have q := x.cell y c e
      rw [bindC_get ndP hp hu (by show scope.names.lookup y ≠ _; rw [k]; decide)] at q
      exact q
  · exact e0.hok.fresh (Nat.le_of_lt (x.above y c (PySem.mem_of_lookup h)))
  · unfold start
    show _ = N.length
    rw [List.length_append, List.length_map, List.length_replicate]
    omega
theorem fn_of {CX : CXT} {P : Program} {w : World} {K : PySem.W.Frag} {mg : Str -> Option Value} {base : Heap} {k : Nat} {f : Addr} {name qual : Str} {params : Arguments} {body : List Stmt} {scope : Scope} {dV kV doc pm cdv ct oc : Value} {an od : Option Addr}
    {osl : Array (Option Value)} {N ps : List Str} {sp : Sp} (lk : K.lookup f = some ⟨oc, od, .func (PySem.W.fnOf name qual params body scope dV kV doc pm an cdv ct), osl⟩) (hcd : PySem.W.codeIn K cdv qual = true) (S : FnScope N ps scope)
    (len : ∀ vs H Q E, sp vs H Q E -> vs.length = ps.length)
    (hbody : ∀ (A : Around) (outer : List Env) (s : Shared) (H : Hp) (vs : List V) (Q : VK) (E : XK), Room k (A.deeper (envOfC qual scope s.heap.objs.size f cdv)) -> sp vs H Q E ->
      ∃ t, PSs (cxOf CX P w K mg base N qual scope f cdv A outer s H E) body t /\ t { nx := fun _ H' => Q .non H', rt := Q } (start N vs) H) :
    FnOk P w K mg base CX (k + 1) f (PySem.W.fnOf name qual params body scope dV kV doc pm an cdv ct) ps sp := by
  refine ⟨len, fun A outer s H args us vs Q E hr e0 hb r hsp => ?_⟩
  have hl := len _ _ _ _ hsp
  have KX : K.In s.heap := e0.mod.kin.keeps fun b o e => (e0.bs b o e).1
  have lim : s.heap.NoLimit := e0.mod.nolimit.keeps fun b o e => (e0.bs b o e).1
  have hkind : ∀ y ∈ ps.zip us, scope.names.lookup y.1 = some .local \/ (scope.names.lookup y.1 = some .cell /\ ((cellsFrom (s.heap.objs.size + 1) scope.names []).lookup y.1).isSome = true) := fun ⟨n, v⟩ hy => by
    rcases S.par n (List.of_mem_zip hy).1 with q | q
    · exact .inl q
    · exact .inr ⟨q, PySem.W.cellsFrom_some _ _ _ (.inl q)⟩
  refine codeAny_call_function hr.depth (KX _ _ lk) rfl S.co S.gen rfl (PySem.W.codeRec_of KX hcd) (hb _ _ _ _ ?_)
  refine wpAny_newFunctionEnv_cells S.kind hkind fun env he s1 x => ?_
  subst he
  refine ⟨lim.keeps x.toInCall.keep, codeAny_func ?_⟩
  obtain ⟨t, ht, hq⟩ := hbody A outer s H vs Q E (hr.deeper _) hsp
  have I : Inv (cxOf CX P w K mg base N qual scope f cdv A outer s H E) [] (start N vs) H s1 := inv_start S hr.hd e0 hl r x
  refine wpAny_mono (ht [] s1 (start N vs) H _ I hq) (fun fl s' hs => ?_) fun e s' hs => hs
  have fin : ∀ {σ' : St} {H' : Hp} {v : V} {u : Value}, Inv (cxOf CX P w K mg base N qual scope f cdv A outer s H E) [] σ' H' s' -> zae v u -> Q v H' -> CE outer P w H s Q u s' :=
    fun {σ' H' v u} J rv q => ⟨v, H', J.os, J.bare, J.base, J.hok, rv, q⟩
  cases fl with
  | ret u =>
    obtain ⟨v, σ', H', J, rv, q⟩ := hs
    exact fin J rv q
  | next =>
    obtain ⟨σ', H', J, q⟩ := hs
    exact fin (v := V.non) (u := Value.none) J rfl q
  | brk =>
    obtain ⟨_, _, _, q⟩ := hs
    exact False.elim q
  | cont =>
    obtain ⟨_, _, _, q⟩ := hs
    exact False.elim q
end L2
namespace L2
open PySem PySem.Spec PyProof.Rows
section
variable {X : Cx} {x : Str} {p pos : Pos} {e : Expr} {es : List Expr} {t : TA} {id T : String} {r : List V -> Hp -> VK -> Prop}
def tCB (r : List V -> Hp -> VK -> Prop) (t : TA) : TE := fun σ H Q => t σ H fun vs H1 => r vs H1 Q
theorem pe_callB (hc : CallR X (.builtin id) r) (hg : Gl X x) (hm : X.mg x = none) (hv : bootBuiltins x = some (.builtin id)) (ha : PA X (e :: es) t) (hn : x ≠ "__name__" := by decide) (hdb : (x == ("__debug__" : Str)) = false := by decide)
    (he : starEach (e :: es) X.env = (false, eval e X.env) :: starEach es X.env := by rfl) (hpl : (backTo pos (starEach es X.env)).any (·.1) = false := by rfl) : PE X (.Call (.Name x p) (e :: es) [] pos) (tCB r t) := by
  intro pins s σ H Q I h
  refine wpAny_Call_Name_kw (ld_blt I hg hm hv ?_ hn hdb)
  exact PyProof.Rows.callWith_builtin1 (thn (ha pos pins s σ H _ I h) fun us s1 ⟨vs, H1, I1, r1, q1⟩ => hc pins s1 σ H1 vs us Q I1 r1 q1) he hpl
theorem pe_callTy (hc : CallR X (.type T) r) (hg : Gl X x) (hm : X.mg x = none) (hv : bootBuiltins x = some (.type T)) (ha : PA X (e :: es) t) (hn : x ≠ "__name__" := by decide) (hdb : (x == ("__debug__" : Str)) = false := by decide)
    (he : starEach (e :: es) X.env = (false, eval e X.env) :: starEach es X.env := by rfl) (hpl : (backTo pos (starEach es X.env)).any (·.1) = false := by rfl) : PE X (.Call (.Name x p) (e :: es) [] pos) (tCB r t) := by
  intro pins s σ H Q I h
  refine wpAny_Call_Name_kw (ld_blt I hg hm hv ?_ hn hdb)
  exact PyProof.Rows.callWith_type1 (thn (ha pos pins s σ H _ I h) fun us s1 ⟨vs, H1, I1, r1, q1⟩ => hc pins s1 σ H1 vs us Q I1 r1 q1) he hpl
end
end L2
namespace HT
open PySem PyProof.Rows
section
open PySem.SeqAt
open PySem.AutoSeq1 (wpAny_loadPart')
open PySem.MeetsSeq PySem.MeetsSeq2 PySem.MeetsSeq3
end
section
variable {prog : Program} {w : World} {A : Around} {E : Value -> Shared -> Prop} {s : Shared}
theorem cat_tup {t b : Addr} {vs ws : List Value} {Q : Value -> Shared -> Prop} (ht : IsTup s.heap t vs.toArray) (hb : IsTup s.heap b ws.toArray) (hv : vs ≠ [])
    (h1 : ws = [] -> Q (.ref t) s) (h2 : ws ≠ [] -> Q (.ref s.heap.objs.size) { s with heap := s.heap.push { cls := .type "tuple", data := .seq (vs ++ ws).toArray } })
    (hsz : vs.length + ws.length <= sizeLine) : wpAny (model prog w) A (binaryOp .Add (.ref t) (.ref b)) Q E s := by
  obtain ⟨⟨cls, dd, data, sl⟩, ho, hc, n, hd⟩ := id ht
  obtain ⟨⟨cls2, dd2, data2, sl2⟩, ho2, hc2, n2, hd2⟩ := id hb
  simp only at hc hd hc2 hd2
  subst hc hd hc2 hd2
  have e : vs.toArray ++ ws.toArray = (vs ++ ws).toArray := by simp
  by_cases hw : ws = []
  · exact concat_meets ⟨_, ho, rfl⟩ ⟨_, ho2, rfl⟩ noFill_tuple_add seq_tuple_add PySem.F.slot_tuple_add PySem.F.entry_tuple_add (PySem.F.args_tuple_add_2 _ _)
      (tuple_addW1 t b vs.toArray ws.toArray n n2 dd dd2 sl sl2 (by simpa using hv) (by simp [hw])) ⟨ho, ho2, h1 hw⟩
  · refine concat_meets ⟨_, ho, rfl⟩ ⟨_, ho2, rfl⟩ noFill_tuple_add seq_tuple_add PySem.F.slot_tuple_add PySem.F.entry_tuple_add (PySem.F.args_tuple_add_2 _ _)
      (tuple_addW2 t b vs.toArray ws.toArray n n2 dd dd2 sl sl2 (by simpa using hv) (by simpa using hw) (by rw [List.size_toArray, List.size_toArray]; exact hsz)) ⟨ho, ho2, ?_⟩
    rw [e]
    exact h2 hw
def sIx (n d : Nat) : Option Int -> Nat
  | none => d
  | some v => if v < 0 then (v + (n : Int)).toNat else min v.toNat n
theorem sIx_le (n d : Nat) (hd : d <= n) (o : Option Int) : sIx n d o <= n := by
  cases o with
  | none => exact hd
  | some v =>
    show (if v < 0 then (v + (n : Int)).toNat else min v.toNat n) <= n
    by_cases hv : v < 0
    · rw [if_pos hv]; omega
    · rw [if_neg hv]; exact Nat.min_le_right _ _
theorem clip_eq (v : Int) (n d : Nat) : (if v < 0 then max (v + (n : Int)) 0 else min v (n : Int)) = ((sIx n d (some v) : Nat) : Int) := by
  show (if v < 0 then max (v + (n : Int)) 0 else min v (n : Int)) = (((if v < 0 then (v + (n : Int)).toNat else min v.toNat n) : Nat) : Int)
  by_cases hv : v < 0
  · simp only [if_pos hv]; omega
  · simp only [if_neg hv]; omega
theorem adjust_gen (lo hi : Option Int) (n : Nat) : Builtin.Slice.sliceAdjust lo hi 1 (n : Int) = (((sIx n 0 lo : Nat) : Int), ((sIx n n hi : Nat) : Int)) := by
  have h1 : ¬ ((1 : Int) < 0) := by omega
  unfold Builtin.Slice.sliceAdjust
  simp only [h1, if_false]
  refine Prod.ext ?_ ?_
  · cases lo with
    | none => rfl
    | some v => exact clip_eq v n 0
  · cases hi with
    | none => rfl
    | some v => exact clip_eq v n n
theorem places_gen (i j : Nat) : Builtin.Slice.slicePlaces (i : Int) (j : Int) 1 = j - i := by
  unfold Builtin.Slice.slicePlaces
  have h1 : (1 : Int) > 0 := by omega
  simp only [h1, if_true, Int.ediv_one]
  split <;> omega
theorem slicePart_ {v : Value} {o : Option Int} {Q : Option Int -> Shared -> Prop} (p : IsPart v o) (h : Q o s) : wpAny (model prog w) A (Builtin.Slice.slicePartIndex v) Q E s := by
  cases p with
  | none => exact slicePart_none h
  | int i t => exact slicePart_int h
theorem sliceApplied_gen {sl : Addr} {vl vu : Value} {lo hi : Option Int} {n : Nat} {Q : Int × Int × Nat -> Shared -> Prop} (hs : s.heap.IsSliceOf sl vl vu .none) (pl : IsPart vl lo) (pu : IsPart vu hi)
    (h : Q (((sIx n 0 lo : Nat) : Int), 1, sIx n n hi - sIx n 0 lo) s) : wpAny (model prog w) A (Builtin.Slice.sliceApplied (.ref sl) (pure (n : Int))) Q E s := by
  obtain ⟨os, hos, hcs, hds⟩ := id hs
  unfold Builtin.Slice.sliceApplied Builtin.Slice.sliceFields
  refine wpAny_bind (wpAny_bind (wpAny_field hos hds (x := vl) rfl (wpAny_bind (wpAny_field hos hds (x := vu) rfl (wpAny_bind (wpAny_field hos hds (x := .none) rfl (wpAny_pure ?_)))))))
  refine wpAny_bind (slicePart_none ?_)
  show wpAny _ _ (if ((1 : Int) == 0) = true then _ else _) _ _ s
  rw [if_neg (by decide)]
  refine wpAny_bind (slicePart_ pl (wpAny_bind (slicePart_ pu (wpAny_bind (wpAny_pure ?_)))))
  show wpAny _ _ (match Builtin.Slice.sliceAdjust lo hi 1 (n : Int) with | (lo, hi) => pure (lo, (1 : Int), Builtin.Slice.slicePlaces lo hi 1)) _ _ s
  rw [adjust_gen lo hi n]
  show wpAny _ _ (pure (((sIx n 0 lo : Nat) : Int), (1 : Int), Builtin.Slice.slicePlaces ((sIx n 0 lo : Nat) : Int) ((sIx n n hi : Nat) : Int) 1)) _ _ s
  rw [places_gen]
  exact wpAny_pure h
theorem pick_gen (xs : Array Value) (i k : Nat) : ((List.range k).filterMap fun (m : Nat) => xs[((i : Int) + (m : Int) * 1).toNat]?).toArray = ((xs.toList.drop i).take k).toArray := by
  have e : (fun (m : Nat) => xs[((i : Int) + (m : Int) * 1).toNat]?) = fun m => xs[i + m]? := by
    funext m
    have : ((i : Int) + (m : Int) * 1).toNat = i + m := by omega
    rw [this]
  rw [e]
  have := pick_run xs i k
  rw [List.filterMap_map] at this
  have e2 : ((fun x => xs[x]?) ∘ fun x => i + x) = fun m => xs[i + m]? := rfl
  rw [e2] at this
  rw [this]
theorem getItem_tuple_cut {t sl : Addr} {items : Array Value} {vl vu : Value} {lo hi : Option Int} {Q : Value -> Shared -> Prop} (ht : IsTup s.heap t items) (hs : s.heap.IsSliceOf sl vl vu .none) (pl : IsPart vl lo) (pu : IsPart vu hi)
    (hw : ¬ (sIx items.size 0 lo = 0 /\ sIx items.size items.size hi = items.size))
    (h : Q (.ref s.heap.objs.size) { s with heap := s.heap.push { cls := .type "tuple", data := .seq ((items.toList.drop (sIx items.size 0 lo)).take (sIx items.size items.size hi - sIx items.size 0 lo)).toArray } })
    (hsz : items.size <= sizeLine) : wpAny (model prog w) A (getItem (.ref t) (.ref sl)) Q E s := by
  have htake : sizeOk (.seq ((items.toList.drop (sIx items.size 0 lo)).take (sIx items.size items.size hi - sIx items.size 0 lo)).toArray) := by
    show ((items.toList.drop (sIx items.size 0 lo)).take (sIx items.size items.size hi - sIx items.size 0 lo)).toArray.size <= sizeLine
    rw [List.size_toArray, List.length_take, List.length_drop, Array.length_toList]
    omega
  have hj : sIx items.size items.size hi <= items.size := sIx_le _ _ (Nat.le_refl _) hi
  obtain ⟨os, hos, hcs, hds⟩ := id hs
  have hTs : s.TypeIs (.ref sl) "slice" := ⟨os, hos, hcs⟩
  unfold getItem
  try with_reducible refine wpAny_holding ?_
  first | refine wpAny_bind (wpAny_pure ?_) | skip
  refine wpAny_bind (wpAny_sequenceKey ht.typeIs (by decide) ?_)
  refine wpAny_bind (wpAny_callSpecial?_slot (name := Str.ofString "__getitem__") ht.typeIs PyProof.Rows.slot_tuple_getitem
    (wpAny_call_entry PyProof.Rows.slot_tuple_getitem ht.typeIs entry_tuple_getitem ?_ (args_tuple_getitem _ _)))
  show wpAny _ _ (Builtin.Tuple.tupleItemsOf (.ref t) >>= _) _ _ s
  refine wpAny_bind (tupleItemsOf_ ht ?_)
  refine wpAny_bind (wpAny_typeOf hTs ?_)
  rw [if_pos (by decide)]
  refine wpAny_bind (sliceApplied_gen hs pl pu ?_)
  have hno : ¬ ((((sIx items.size 0 lo : Nat) : Int) == 0 && (1 : Int) == 1 && (sIx items.size items.size hi - sIx items.size 0 lo) == items.size) = true) := by
    intro q
    rw [Bool.and_eq_true, Bool.and_eq_true] at q
    have q1 : ((sIx items.size 0 lo : Nat) : Int) = 0 := eq_of_beq q.1.1
    have q2 : sIx items.size items.size hi - sIx items.size 0 lo = items.size := eq_of_beq q.2
    exact hw ⟨by omega, by omega⟩
  show wpAny _ _ (if (((sIx items.size 0 lo : Nat) : Int) == 0 && (1 : Int) == 1 && (sIx items.size items.size hi - sIx items.size 0 lo) == items.size) = true then _ else _) _ _ s
  rw [if_neg hno, pick_gen]
  first
    | exact wpAny_bind (m := Builtin.Tuple.tupleExact _) (wpAny_newObj_type (wpAny_pure ⟨_, rfl, wpAny_pure h⟩) htake)
    | exact wpAny_bind (m := Builtin.Tuple.tupleExact _) (wpAny_newObj_type (wpAny_bind (wpAny_pure (wpAny_pure ⟨_, rfl, wpAny_pure h⟩))) htake)
    | exact wpAny_bind (wpAny_bind (m := Builtin.Tuple.tupleExact _) (wpAny_newObj_type (wpAny_pure (wpAny_pure ⟨_, rfl, wpAny_pure h⟩)) htake))
    | exact wpAny_bind (wpAny_bind (m := Builtin.Tuple.tupleExact _) (wpAny_newObj_type (wpAny_pure ⟨_, rfl, wpAny_pure h⟩) htake))
end
end HT
namespace L2
open PySem PySem.Spec PyProof.Rows
abbrev TO := St -> Hp -> (Option Int -> Hp -> Prop) -> Prop
def PO (X : Cx) (e : Option Expr) (t : TO) : Prop :=
  ∀ (pins : List (Addr × Obj)) (s : Shared) (σ : St) (H : Hp) (Q : Option Int -> Hp -> Prop), Inv X pins σ H s -> t σ H Q ->
    wpAny (model X.prog X.w) X.A (evalPart e X.env) (fun u s' => ∃ o H', Inv X pins σ H' s' /\ IsPart u o /\ Q o H') X.xe s
def tPart (t : TE) : TO := fun σ H Q => t σ H fun x H1 => ∃ i, x = .int i /\ Q (some i) H1
theorem intsAre_of {ns : List Int} : ∀ {us : List Value}, zag (ns.map V.int) us -> IntsAre us ns := by
  induction ns with
  | nil => intro us r; rw [List.map_nil] at r; cases r; exact .nil
  | cons n ns ih =>
    intro us r
    rw [List.map_cons] at r
    cases r with
    | cons r1 r2 =>
      obtain ⟨t, e⟩ := r1
      subst e
      exact .cons n t (ih r2)
section
variable {X : Cx} {e : Expr} {te : TE} {lo hi : Option Expr} {tl th : TO} {pos p2 : Pos}
theorem po_some (h : PE X e te) : PO X (some e) (tPart te) := by
  intro pins s σ H Q I hw
  rw [evalPart_some]
  refine thn (h pins s σ H _ I hw) fun u s1 ⟨x, H1, I1, r1, q1⟩ => ?_
  obtain ⟨i, rfl, q⟩ := q1
  obtain ⟨t, rfl⟩ := r1
  exact ⟨some i, H1, I1, .int i t, q⟩
def SlR (X : Cx) (r : V -> Option Int -> Option Int -> Hp -> VK -> Prop) : Prop :=
  ∀ (pins : List (Addr × Obj)) (s : Shared) (σ : St) (H : Hp) (x : V) (v vl vu : Value) (lo hi : Option Int) (sl : Addr) (Q : VK), Inv X pins σ H s -> zae x v -> s.heap.IsSliceOf sl vl vu .none -> IsPart vl lo -> IsPart vu hi -> r x lo hi H Q ->
    ∃ T id, typeLookup (.type T) "__getitem__" = pure (some (.builtin id)) /\ s.TypeIs v T /\ wpAny (model X.prog X.w) X.A (getItem v (.ref sl)) (EP X pins σ Q) X.xe s
theorem SlR.or {r r' : V -> Option Int -> Option Int -> Hp -> VK -> Prop} (h : SlR X r) (h' : SlR X r') : SlR X (fun x lo hi H Q => r x lo hi H Q \/ r' x lo hi H Q) := by
  intro pins s σ H x v vl vu lo hi sl Q I rx hs pl pu q
  rcases q with q | q
  · exact h pins s σ H x v vl vu lo hi sl Q I rx hs pl pu q
  · exact h' pins s σ H x v vl vu lo hi sl Q I rx hs pl pu q
def tSl (r : V -> Option Int -> Option Int -> Hp -> VK -> Prop) (te : TE) (tl th : TO) : TE := fun σ H Q => te σ H fun x H1 => tl σ H1 fun l H2 => th σ H2 fun u H3 => r x l u H3 Q
theorem pe_slice {r : V -> Option Int -> Option Int -> Hp -> VK -> Prop} (hr : SlR X r) (he : PE X e te) (hl : PO X lo tl) (hu : PO X hi th) : PE X (.Subscript e (.Slice lo hi none p2) pos) (tSl r te tl th) := by
  intro pins s σ H Q I h
  refine Subscript_ (thn (he pins s σ H _ I h) fun v s1 ⟨x, H1, I1, r1, q1⟩ => ?_)
  refine wpAny_Slice (thn (hl pins s1 σ H1 _ I1 q1) fun vl s2 ⟨l, H2, I2, pl, q2⟩ => thn (hu pins s2 σ H2 _ I2 q2) fun vu s3 ⟨u, H3, I3, pu, q3⟩ => ?_)
  rw [evalPart_none]
  refine wpAny_pure ?_
  have I4 : Inv X pins σ H3 { s3 with heap := s3.heap.push { cls := .type "slice", data := .fields #[vl, vu, .none] } } := I3.kept (t' := s3.toks) fun b ob q => Heap.get?_push_of_some _ q
  obtain ⟨T, id, hT, ht, hg⟩ := hr pins { s3 with heap := s3.heap.push { cls := .type "slice", data := .fields #[vl, vu, .none] } } σ H3 x v vl vu l u s3.heap.objs.size Q I4 r1 (Heap.IsSliceOf.new ..) pl pu q3
  show wpAny (model X.prog X.w) X.A (subscriptTail e (.Slice lo hi none p2) v (.ref s3.heap.objs.size)) (EP X pins σ Q) X.xe { s3 with heap := s3.heap.push { cls := .type "slice", data := .fields #[vl, vu, .none] } }
  exact tail_any (ops := [.ref s3.heap.objs.size, v]) ht hT hg (by with_unfolding_all rfl)
def cutV (xs : List V) (lo hi : Option Int) : List V := (xs.drop (HT.sIx xs.length 0 lo)).take (HT.sIx xs.length xs.length hi - HT.sIx xs.length 0 lo)
theorem cutV_length (xs : List V) (lo hi : Option Int) : (cutV xs lo hi).length <= xs.length := by
  unfold cutV
  rw [List.length_take, List.length_drop]
  omega
def rSlT (K : PySem.W.Frag) : V -> Option Int -> Option Int -> Hp -> VK -> Prop := fun x lo hi H Q => ∃ a xs, x = .ref a /\ SqT K H a xs /\
  ¬ (HT.sIx xs.length 0 lo = 0 /\ HT.sIx xs.length xs.length hi = xs.length) /\ ∀ p, H p = none -> Q (.ref p) (upd H p (.tup (cutV xs lo hi)))
theorem sl_tup : SlR X (rSlT X.K) := by
  intro pins s σ H x v vl vu lo hi sl Q I rx hs pl pu h
  obtain ⟨a, xs, rfl, hx, hw, q⟩ := h
  cases rx
  obtain ⟨its, r, ht, hz⟩ := I.tuple hx
  have hlen : its.toArray.size = xs.length := by rw [List.size_toArray]; exact r.length.symm
  refine ⟨"tuple", _, PyProof.Rows.slot_tuple_getitem.lookup, ht.typeIs, ?_⟩
  refine HT.getItem_tuple_cut ht hs pl pu (by rw [hlen]; exact hw) ?_ (by rw [hlen]; exact hz)
  rw [hlen]
  refine ⟨.ref s.heap.objs.size, _, I.laid (t' := s.toks) (o := .tup (cutV xs lo hi)) (fun b ob q => Heap.get?_push_of_some _ q) (Nat.le_refl _) ?_, rfl, q _ (I.hok.fresh (Nat.le_refl _))⟩
  exact ⟨Nat.le_trans (cutV_length xs lo hi) hz, _, (r.drop (HT.sIx xs.length 0 lo)).take (HT.sIx xs.length xs.length hi - HT.sIx xs.length 0 lo), IsTup.new _ _⟩
def rCatT (K : PySem.W.Frag) : R2 := fun x y H Q => ∃ a b xs ys, x = .ref a /\ y = .ref b /\ SqT K H a xs /\ SqT K H b ys /\ xs ≠ [] /\ xs.length + ys.length <= sizeLine /\
  (ys = [] -> Q (.ref a) H) /\ (ys ≠ [] -> ∀ p, H p = none -> Q (.ref p) (upd H p (.tup (xs ++ ys))))
theorem zag.nil_iff {xs : List V} {us : List Value} (r : zag xs us) : us = [] ↔ xs = [] := by
  cases r with
  | nil => simp
  | cons _ _ => simp
theorem op_catT : OpR X (binaryOp .Add) (rCatT X.K) := by
  intro pins s σ H x y v u Q I rx ry h
  obtain ⟨a, b, xs, ys, rfl, rfl, ha, hb, hx, hz, q1, q2⟩ := h
  cases rx
  cases ry
  obtain ⟨its, r1, p1, _⟩ := I.tuple ha
  obtain ⟨its2, r2, p2, _⟩ := I.tuple hb
  refine HT.cat_tup p1 p2 (fun z => hx (r1.nil_iff.mp z)) (fun z => ⟨.ref a, H, I, rfl, q1 (r2.nil_iff.mp z)⟩) (fun z => ?_) (by rw [<- r1.length, <- r2.length]; exact hz)
  refine ⟨.ref s.heap.objs.size, _, I.laid (t' := s.toks) (o := .tup (xs ++ ys)) (fun b ob q => Heap.get?_push_of_some _ q) (Nat.le_refl _) ?_, rfl, q2 (fun w => z (r2.nil_iff.mpr w)) _ (I.hok.fresh (Nat.le_refl _))⟩
  exact ⟨by rw [List.length_append]; exact hz, _, r1.append r2, IsTup.new _ _⟩
end
end L2
namespace L2
open PySem PySem.Spec PyProof.Rows
def ixN (n : Nat) (i : Int) : Option Nat := if 0 <= i then (if i < n then some i.toNat else none) else if -(n : Int) <= i then some (i + n).toNat else none
def atI {α : Type} (xs : List α) (i : Int) : Option α := (ixN xs.length i).bind fun j => xs[j]?
theorem ixN_seq {n : Nat} {i : Int} {j : Nat} (h : ixN n i = some j) : seqIndex? i n = some j /\ j < n /\ -(n : Int) <= i /\ i < n := by
  unfold ixN at h
  by_cases h0 : 0 <= i
  · rw [if_pos h0] at h
    by_cases h1 : i < n
    · rw [if_pos h1] at h
      have e : i.toNat = j := Option.some.inj h
      exact ⟨by rw [seqIndex_of h0 h1, e], by omega, by omega, h1⟩
    · rw [if_neg h1] at h; cases h
  · rw [if_neg h0] at h
    by_cases h1 : -(n : Int) <= i
    · rw [if_pos h1] at h
      have e : (i + n).toNat = j := Option.some.inj h
      exact ⟨by rw [seqIndex_neg (by omega) h1, e], by omega, h1, by omega⟩
    · rw [if_neg h1] at h; cases h
theorem atI_get {α : Type} {xs : List α} {i : Int} {v : α} (h : atI xs i = some v) : ∃ j, seqIndex? i xs.length = some j /\ xs[j]? = some v /\ j < xs.length /\ -(xs.length : Int) <= i /\ i < xs.length := by
  unfold atI at h
  cases e : ixN xs.length i with
  | none => rw [e] at h; cases h
  | some j =>
    rw [e] at h
    obtain ⟨h1, h2, h3, h4⟩ := ixN_seq e
    exact ⟨j, h1, h, h2, h3, h4⟩
theorem zaj {α : Type} {xs : List α} {j : Nat} {v : α} (h : xs[j]? = some v) : atI xs (j : Int) = some v := by
  have hj : j < xs.length := (List.getElem?_eq_some_iff.mp h).1
  have e : ixN xs.length (j : Int) = some j := by
    unfold ixN
    rw [if_pos (by omega), if_pos (by omega)]; simp
  unfold atI; rw [e]; exact h
def PlainIx (b : Expr) : Prop := ∀ o i, subscripted b false o i = operate [o, i] (getItem o i)
def IxR (X : Cx) (r : R2) : Prop :=
  ∀ (value slice : Expr) (pins : List (Addr × Obj)) (s : Shared) (σ : St) (H : Hp) (x y : V) (v u : Value) (Q : VK), Inv X pins σ H s -> zae x v -> zae y u -> r x y H Q ->
    subscripted slice false v u = operate [v, u] (getItem v u) -> wpAny (model X.prog X.w) X.A (subscriptTail value slice v u) (EP X pins σ Q) X.xe s
def MtR (X : Cx) (id : String) (r : V -> List V -> Hp -> VK -> Prop) : Prop :=
  ∀ (pins : List (Addr × Obj)) (s : Shared) (σ : St) (H : Hp) (x : V) (xs : List V) (v : Value) (us : List Value) (Q : VK), Inv X pins σ H s -> zae x v -> zag xs us -> r x xs H Q ->
    wpAny (model X.prog X.w) X.A (call (.builtin id) (v :: us)) (EP X pins σ Q) X.xe s
section
variable {X : Cx} {a b : Expr} {ta tb : TE} {pos : Pos}
theorem IxR.or {r r' : R2} (h : IxR X r) (h' : IxR X r') : IxR X (fun x y H Q => r x y H Q \/ r' x y H Q) := by
  intro value slice pins s σ H x y v u Q I rx ry q hs
  rcases q with q | q
  · exact h value slice pins s σ H x y v u Q I rx ry q hs
  · exact h' value slice pins s σ H x y v u Q I rx ry q hs
theorem MtR.or {id : String} {r r' : V -> List V -> Hp -> VK -> Prop} (h : MtR X id r) (h' : MtR X id r') : MtR X id (fun x xs H Q => r x xs H Q \/ r' x xs H Q) := by
  intro pins s σ H x xs v us Q I rx rs q
  rcases q with q | q
  · exact h pins s σ H x xs v us Q I rx rs q
  · exact h' pins s σ H x xs v us Q I rx rs q
theorem pe_ix {r : R2} (hr : IxR X r) (ha : PE X a ta) (hb : PE X b tb) (hs : PlainIx b) : PE X (.Subscript a b pos) (tOp r ta tb) := by
  intro pins s σ H Q I h
  exact Subscript_ (binT ha hb I h fun v u s2 x y H2 I2 rx ry q => hr a b pins s2 σ H2 x y v u Q I2 rx ry q (hs _ _))
def rIxL (K : PySem.W.Frag) : R2 := fun x y H Q => ∃ p xs i v, x = .ref p /\ y = .int i /\ SqL K H p xs /\ atI xs i = some v /\ Q v H
def rIxT (K : PySem.W.Frag) : R2 := fun x y H Q => ∃ p xs i v, x = .ref p /\ y = .int i /\ SqT K H p xs /\ atI xs i = some v /\ Q v H
theorem ix_list : IxR X (rIxL X.K) := by
  intro value slice pins s σ H x y v u Q I rx ry h hs
  obtain ⟨p, xs, i, z, rfl, rfl, hq, he, q⟩ := h
  cases rx
  obtain ⟨t, rfl⟩ := ry
  obtain ⟨its, r, pl, hz⟩ := I.list hq
  obtain ⟨j, h1, h2, h3, h4, h5⟩ := atI_get he
  obtain ⟨w, ew, rw'⟩ := r.get h2
  have hl := r.length
  have hn := line63
  have fin : EP X pins σ Q w s := ⟨z, H, I, rw', q⟩
  by_cases h0 : 0 <= i
  · have hj : i.toNat = j := by
      rw [seqIndex_of h0 h5] at h1
      exact Option.some.inj h1
    exact item_listR pl.isList h0 (by omega) (by rw [hj]; simpa using ew) fin hs
  · have hj : (i + (its.toArray.size : Int)).toNat = j := by
      rw [seqIndex_neg (by omega) h4] at h1
      rw [List.size_toArray, <- hl]
      exact Option.some.inj h1
    exact subscriptTail_builtinR (x := w) pl.isList.typeIs slot_list_getitem.lookup
      (wpAny_getItem_list_neg (Q := fun r s' => r = w /\ EP X pins σ Q r s') pl.isList (by omega) (by rw [List.size_toArray] <;> omega) (by omega) (by rw [hj]; simpa using ew) ⟨rfl, fin⟩) hs
theorem ix_tup : IxR X (rIxT X.K) := by
  intro value slice pins s σ H x y v u Q I rx ry h hs
  obtain ⟨p, xs, i, z, rfl, rfl, hq, he, q⟩ := h
  cases rx
  obtain ⟨t, rfl⟩ := ry
  obtain ⟨its, r, pl, hz⟩ := I.tuple hq
  obtain ⟨j, h1, h2, h3, h4, h5⟩ := atI_get he
  obtain ⟨w, ew, rw'⟩ := r.get h2
  have hl := r.length
  have hn := line63
  have fin : EP X pins σ Q w s := ⟨z, H, I, rw', q⟩
  exact subscriptTail_builtinR (x := w) pl.typeIs slot_tuple_getitem.lookup
    (getItem_tuple (j := j) (Q := fun r s' => r = w /\ EP X pins σ Q r s') pl (by omega) (by omega) (by rw [List.size_toArray, <- hl]; exact h1) (by simpa using ew) ⟨rfl, fin⟩) hs
theorem mapSeq_set (its : List Value) (n j : Nat) (u : Value) : Obj.mapSeq (·.setIfInBounds j u) { cls := .type "list", data := .seq its.toArray n } = { cls := .type "list", data := .seq (its.set j u).toArray n } := by
  simp [Obj.mapSeq]
theorem Inv.lst {pins : List (Addr × Obj)} {σ : St} {H : Hp} {s : Shared} {p : Addr} {xs : List V} (I : Inv X pins σ H s) (h : H p = some (.lst xs)) :
    ∃ (its : List Value) (n : Nat), zag xs its /\ s.heap.get? p = some { cls := .type "list", data := .seq its.toArray n } /\ xs.length <= sizeLine := by
  obtain ⟨z, its, n, r, e⟩ := I.hok p _ h
  exact ⟨its, n, r, e, z⟩
theorem Inv.lstUpd {pins : List (Addr × Obj)} {σ : St} {H : Hp} {s : Shared} {p : Addr} {xs ys : List V} {its its' : List Value} {n n' : Nat} {f : Obj -> Obj} (I : Inv X pins σ H s) (h : H p = some (.lst xs))
    (ho : s.heap.get? p = some { cls := .type "list", data := .seq its.toArray n }) (hf : f { cls := .type "list", data := .seq its.toArray n } = { cls := .type "list", data := .seq its'.toArray n' }) (r : zag ys its') (hz : ys.length <= sizeLine) (t : Nat) :
    Inv X pins σ (upd H p (.lst ys)) { s with heap := s.heap.update p f, toks := t } := by
  have e : (s.heap.update p f).get? p = some { cls := .type "list", data := .seq its'.toArray n' } := by
    rw [Heap.get?_update_self f ho (by rw [hf] <;> rfl), hf]
  refine I.write (x := p) (e := p) (by rw [h]; trivial) (.inl rfl) (fun b u hb q => (Heap.get?_update_other _ _ (Ne.symm hb)).trans q) ⟨_, e⟩ ?_
  exact ⟨hz, its', n', r, e⟩
def rSetL : V -> V -> V -> Hp -> (Hp -> Prop) -> Prop := fun o i v H Q => ∃ p xs k j, o = .ref p /\ i = .int k /\ H p = some (.lst xs) /\ ixN xs.length k = some j /\ Q (upd H p (.lst (xs.set j v)))
theorem set_list : PSet X rSetL := by
  intro pins s σ H o i v ov iv u Q I ro ri rv h
  obtain ⟨p, xs, k, j, rfl, rfl, hp, hj, q⟩ := h
  cases ro
  obtain ⟨t, rfl⟩ := ri
  obtain ⟨its, n, r, ho, hz⟩ := I.lst hp
  obtain ⟨h1, h2, h3, h4⟩ := ixN_seq hj
  have hl := r.length
  have hn := line63
  have I' : Inv X pins σ (upd H p (.lst (xs.set j v))) { s with heap := s.heap.update p (Obj.mapSeq (·.setIfInBounds j u)) } :=
    I.lstUpd hp ho (mapSeq_set its n j u) (r.set rv j) (by rw [List.length_set]; exact hz) s.toks
  by_cases h0 : 0 <= k
  · have hk : k.toNat = j := by
      rw [seqIndex_of h0 h4] at h1
      exact Option.some.inj h1
    exact PySem.W.ki_setAt ho h0 (by omega) (by rw [List.size_toArray, <- hl]; exact h4) (by rw [hk]; exact ⟨_, I', q⟩)
  · have hk : (k + (its.toArray.size : Int)).toNat = j := by
      rw [seqIndex_neg (by omega) h3] at h1
      rw [List.size_toArray, <- hl]
      exact Option.some.inj h1
    exact PySem.W.ki_setBack ho (by omega) (by rw [List.size_toArray, <- hl]; exact h3) (by omega) (by rw [hk]; exact ⟨_, I', q⟩)
theorem slice_bounds (lo hi : Option Int) (n : Nat) : (sliceBounds lo hi none n).1 = ((HT.sIx n 0 lo : Nat) : Int) /\ (sliceBounds lo hi none n).2.1 = ((HT.sIx n n hi : Nat) : Int) /\ (sliceBounds lo hi none n).2.2 = 1 := by
  refine ⟨?_, ?_, rfl⟩
  · cases lo with
    | none => simp [sliceBounds, HT.sIx]
    | some i =>
      simp only [sliceBounds, HT.sIx, Option.getD_none, show (1 : Int) > 0 by decide, if_true]
      by_cases h : i < 0
      · simp only [h, if_true] <;> omega
      · simp only [h, if_false] <;> omega
  · cases hi with
    | none => simp [sliceBounds, HT.sIx]
    | some i =>
      simp only [sliceBounds, HT.sIx, Option.getD_none, show (1 : Int) > 0 by decide, if_true]
      by_cases h : i < 0
      · simp only [h, if_true] <;> omega
      · simp only [h, if_false] <;> omega
theorem slicePick_cut (its : List Value) (lo hi : Option Int) : slicePick its.toArray lo hi none = ((its.drop (HT.sIx its.length 0 lo)).take (HT.sIx its.length its.length hi - HT.sIx its.length 0 lo)).toArray := by
  obtain ⟨h1, h2, h3⟩ := slice_bounds lo hi its.toArray.size
  unfold slicePick
  rw [h1, h2, h3]
  simp only [sliceRange_one, pick_run, List.size_toArray] <;> rfl
def rSlL (K : PySem.W.Frag) : V -> Option Int -> Option Int -> Hp -> VK -> Prop := fun x lo hi H Q => ∃ a xs, x = .ref a /\ SqL K H a xs /\ ∀ p, H p = none -> Q (.ref p) (upd H p (.lst (cutV xs lo hi)))
theorem sl_list : SlR X (rSlL X.K) := by
  intro pins s σ H x v vl vu lo hi sl Q I rx hs pl pu h
  obtain ⟨a, xs, rfl, hx, q⟩ := h
  cases rx
  obtain ⟨its, r, ht, hz⟩ := I.list hx
  have hlen := r.length
  refine ⟨"list", _, slot_list_getitem.lookup, ht.isList.typeIs, ?_⟩
  refine wpAny_getItem_list_slice ht.isList hs pl pu .none (by simp) ?_ (by rw [List.size_toArray] <;> omega)
  rw [slicePick_cut, <- hlen]
  refine ⟨.ref s.heap.objs.size, _, I.laid (t' := s.toks) (o := .lst (cutV xs lo hi)) (fun b ob q => Heap.get?_push_of_some _ q) (Nat.le_refl _) ?_, rfl, q _ (I.hok.fresh (Nat.le_refl _))⟩
  exact ⟨Nat.le_trans (cutV_length xs lo hi) hz, _, 0, (r.drop (HT.sIx xs.length 0 lo)).take (HT.sIx xs.length xs.length hi - HT.sIx xs.length 0 lo), Heap.get?_push_size _ rfl⟩
def zbh : V -> Bool
  | .non => true
  | .bl _ => true
  | .int _ => true
  | .str _ => true
  | _ => false
def eqV : V -> V -> Bool
  | .non, .non => true
  | .bl a, .bl b => a == b
  | .bl a, .int b => (if a then 1 else 0) == b
  | .int a, .bl b => a == (if b then 1 else 0)
  | .int a, .int b => a == b
  | .str a, .str b => a == b
  | _, _ => false
theorem eqAt_V {A : Around} {s : Shared} {y x : V} {u v : Value} (ry : zae y u) (rx : zae x v) (fy : zbh y = true) (fx : zbh x = true) : SeqAt.EqAt A s u v (eqV y x) := by
  cases y with
  | non =>
    cases ry
    cases x with
    | non => cases rx; exact SeqAt.EqAt.same _
    | bl b => cases rx; exact SeqAt.EqAt.none_bool b
    | int b => obtain ⟨t, rfl⟩ := rx; exact SeqAt.EqAt.none_int b t
    | str b => obtain ⟨t, rfl⟩ := rx; exact SeqAt.EqAt.none_str b t
    | _ => exact absurd (show false = true from fx) Bool.false_ne_true
  | bl a =>
    cases ry
    cases x with
    | non => cases rx; exact SeqAt.EqAt.bool_none a
    | bl b => cases rx; exact SeqAt.EqAt.bool_bool a b
    | int b => obtain ⟨t, rfl⟩ := rx; exact SeqAt.EqAt.bool_int a b t
    | str b => obtain ⟨t, rfl⟩ := rx; exact SeqAt.EqAt.bool_str a b t
    | _ => exact absurd (show false = true from fx) Bool.false_ne_true
  | int a =>
    obtain ⟨t', rfl⟩ := ry
    cases x with
    | non => cases rx; exact SeqAt.EqAt.int_none a t'
    | bl b => cases rx; exact SeqAt.EqAt.int_bool a t' b
    | int b => obtain ⟨t, rfl⟩ := rx; exact SeqAt.EqAt.int_int a t' b t
    | str b => obtain ⟨t, rfl⟩ := rx; exact SeqAt.EqAt.int_str a t' b t
    | _ => exact absurd (show false = true from fx) Bool.false_ne_true
  | str a =>
    obtain ⟨t', rfl⟩ := ry
    cases x with
    | non => cases rx; exact SeqAt.EqAt.str_none a t'
    | bl b => cases rx; exact SeqAt.EqAt.str_bool a t' b
    | int b => obtain ⟨t, rfl⟩ := rx; exact SeqAt.EqAt.str_int a t' b t
    | str b => obtain ⟨t, rfl⟩ := rx; exact SeqAt.EqAt.str_str a t' b t
    | _ => exact absurd (show false = true from fx) Bool.false_ne_true
  | _ => exact absurd (show false = true from fy) Bool.false_ne_true
def eqU (x : V) (u : Value) : Bool := match u with
  | .none => eqV .non x
  | .bool b => eqV (.bl b) x
  | .int i _ => eqV (.int i) x
  | .str z _ => eqV (.str z) x
  | _ => false
theorem eqU_of {x y : V} {u : Value} (r : zae y u) (f : zbh y = true) : eqU x u = eqV y x := by
  cases y with
  | non => cases r; rfl
  | bl b => cases r; rfl
  | int i => obtain ⟨t, rfl⟩ := r; rfl
  | str z => obtain ⟨t, rfl⟩ := r; rfl
  | _ => exact absurd (show false = true from f) Bool.false_ne_true
theorem any_eqU {x : V} : ∀ {xs : List V} {us : List Value}, zag xs us -> xs.all zbh = true -> us.any (eqU x) = xs.any fun y => eqV y x
  | _, _, .nil, _ => rfl
  | y :: xs, u :: us, .cons r t, f => by
    rw [List.all_cons, Bool.and_eq_true] at f
    rw [List.any_cons, List.any_cons, eqU_of r f.1, any_eqU t f.2]
theorem mem_eqAt {A : Around} {s : Shared} {x : V} {v : Value} (rx : zae x v) (fx : zbh x = true) : ∀ {xs : List V} {us : List Value}, zag xs us -> xs.all zbh = true -> ∀ u ∈ us, SeqAt.EqAt A s u v (eqU x u)
  | _, _, .nil, _ => fun u hu => by cases hu
  | y :: xs, u :: us, .cons r t, f => fun u' hu => by
    rw [List.all_cons, Bool.and_eq_true] at f
    rcases List.mem_cons.mp hu with rfl | hu
    · rw [eqU_of r f.1]; exact eqAt_V r rx f.1 fx
    · exact mem_eqAt rx fx t f.2 u' hu
def inV (x : V) (xs : List V) : Bool := xs.any fun y => eqV y x
def rIn (K : PySem.W.Frag) (neg : Bool) : R2 := fun x y H Q => ∃ p xs, y = .ref p /\ (SqL K H p xs \/ SqT K H p xs) /\ zbh x = true /\ xs.all zbh = true /\ Q (.bl (if neg then !inV x xs else inV x xs)) H
theorem op_notIn_seq : OpR X (compareOp .NotIn) (rIn X.K true) := by
  intro pins s σ H x y v u Q I rx ry h
  obtain ⟨p, xs, rfl, hq, fx, fs, q⟩ := h
  cases ry
  rcases hq with hq | hq
  · obtain ⟨its, r, pl, hz⟩ := I.list hq
    refine SeqAt.notIn_listAt (eqU x) pl.isList (fun w hw => mem_eqAt rx fx r fs w (by simpa using hw)) ⟨.bl _, H, I, rfl, ?_⟩
    rw [show its.toArray.any (eqU x) = its.any (eqU x) by simp, any_eqU r fs]
    exact q
  · obtain ⟨its, r, pl, hz⟩ := I.tuple hq
    refine SeqAt.notIn_tupleAt (eqU x) pl (fun w hw => mem_eqAt rx fx r fs w (by simpa using hw)) ⟨.bl _, H, I, rfl, ?_⟩
    rw [show its.toArray.any (eqU x) = its.any (eqU x) by simp, any_eqU r fs]
    exact q
theorem zal : CallR X (.builtin "len") (fun xs H Q => ∃ p ys, xs = [.ref p] /\ (SqL X.K H p ys \/ SqT X.K H p ys) /\ Q (.int ys.length) H) := by
  intro pins s σ H xs us Q I r h
  obtain ⟨p, ys, rfl, hq, q⟩ := h
  obtain ⟨u, rfl, rx⟩ := vals1 r
  cases rx
  have hn := line63
  rcases hq with hq | hq
  · obtain ⟨its, r', pl, hz⟩ := I.list hq
    have hlen := r'.length
    exact Calls.call_len_list pl.isList (by simp only [List.size_toArray] <;> omega) ⟨.int ys.length, H, I.tok _, ⟨s.toks + 1, by rw [List.size_toArray, hlen]⟩, q⟩
  · obtain ⟨its, r', pl, hz⟩ := I.tuple hq
    have hlen := r'.length
    exact len_tuple pl (by simp only [List.size_toArray] <;> omega) ⟨.int ys.length, H, I.tok _, ⟨s.toks + 1, by rw [List.size_toArray, hlen]⟩, q⟩
theorem CallR.or {f : Value} {r r' : List V -> Hp -> VK -> Prop} (h : CallR X f r) (h' : CallR X f r') : CallR X f (fun xs H Q => r xs H Q \/ r' xs H Q) := by
  intro pins s σ H xs us Q I rs q
  rcases q with q | q
  · exact h pins s σ H xs us Q I rs q
  · exact h' pins s σ H xs us Q I rs q
theorem call_list_of : CallR X (.type "list") (fun xs H Q => ∃ p ys, xs = [.ref p] /\ (SqL X.K H p ys \/ SqT X.K H p ys) /\ ∀ l, H l = none -> Q (.ref l) (upd H l (.lst ys))) := by
  intro pins s σ H xs us Q I r h
  obtain ⟨p, ys, rfl, hq, q⟩ := h
  obtain ⟨u, rfl, rx⟩ := vals1 r
  cases rx
  have fin : ∀ (its : List Value), zag ys its -> ys.length <= sizeLine -> ∀ (h' : Heap) (c' : Nat), (∀ b o', s.heap.get? b = some o' -> h'.get? b = some o') ->
      h'.get? s.heap.objs.size = some { cls := .type "list", dict := none, data := .seq its.toArray c', slots := #[] } -> EP X pins σ Q (.ref s.heap.objs.size) { s with heap := h' } := fun its r' hz h' c' kp e =>
    ⟨.ref s.heap.objs.size, _, I.laid (t' := s.toks) kp (Nat.le_refl _) (show zac X.prog X.w _ h' _ (.lst ys) from ⟨hz, its, c', r', e⟩), rfl, q _ (I.hok.fresh (Nat.le_refl _))⟩
  rcases hq with hq | hq
  · obtain ⟨its, r', pl, hz⟩ := I.list hq
    have hlen := r'.length
    obtain ⟨o, ho, hc, n, hd⟩ := pl.isList
    exact call_list_seq p (.inl rfl) ho hc hd (fun h' c' kp e => fin its r' hz h' c' kp e) (by simp only [List.size_toArray] <;> omega)
  · obtain ⟨its, r', pl, hz⟩ := I.tuple hq
    have hlen := r'.length
    obtain ⟨o, ho, hc, n, hd⟩ := pl
    exact call_list_seq p (.inr rfl) ho hc hd (fun h' c' kp e => fin its r' hz h' c' kp e) (by simp only [List.size_toArray] <;> omega)
def tyV (K : PySem.W.Frag) (T : String) (x : V) (H : Hp) : Prop := match x with
  | .str _ => T = "str"
  | .int _ => T = "int"
  | .ref p => (T = "list" /\ ∃ xs, SqL K H p xs) \/ (T = "tuple" /\ ∃ o, K.lookup p = some o /\ o.cls = .type "tuple" /\ o.dict = none) \/
      (T = "dict" /\ ((∃ kvs, H p = some (.dK kvs)) \/ ∃ kvs, H p = some (.dT kvs))) \/ (T = "set" /\ ∃ S n, H p = some (.set S n))
  | _ => False
theorem tyV_is {pins : List (Addr × Obj)} {σ : St} {H : Hp} {s : Shared} {T : String} {x : V} {v : Value} (I : Inv X pins σ H s) (r : zae x v) (ty : tyV X.K T x H) :
    s.TypeIs v T /\ ∀ a, v = .ref a -> ∃ ob, s.heap.get? a = some ob /\ ob.dict = none := by
  cases x with
  | str z =>
    obtain ⟨t, rfl⟩ := r
    cases (show T = "str" from ty)
    exact ⟨typeIs_str s z t, fun _ e => nomatch e⟩
  | int i =>
    obtain ⟨t, rfl⟩ := r
    cases (show T = "int" from ty)
    exact ⟨typeIs_int s i t, fun _ e => nomatch e⟩
  | ref p =>
    cases r
    rcases ty with ⟨rfl, xs, hq⟩ | ⟨rfl, o, hk, hc, hd⟩ | ⟨rfl, hk⟩ | ⟨rfl, S, n, hk⟩
    · obtain ⟨its, _, pl, _⟩ := I.list hq
      refine ⟨pl.isList.typeIs, fun a e => ?_⟩
      cases e
      obtain ⟨o, n, e, c, hd, _⟩ := pl
      exact ⟨o, e, hd⟩
    · refine ⟨⟨o, I.kIn p o hk, hc⟩, fun a e => ?_⟩
      cases e
      exact ⟨o, I.kIn _ o hk, hd⟩
    · have z : ∃ o, s.heap.get? p = some o /\ o.ExactDict := by
        rcases hk with ⟨kvs, hk⟩ | ⟨kvs, hk⟩
        · obtain ⟨_, _, _, _, o, _, _, e, ex, _⟩ := I.hok p _ hk
          exact ⟨o, e, ex⟩
        · obtain ⟨_, _, _, _, o, _, _, e, ex, _⟩ := I.hok p _ hk
          exact ⟨o, e, ex⟩
      obtain ⟨o, e, ex⟩ := z
      refine ⟨⟨o, e, ex.1⟩, fun a e2 => ?_⟩
      cases e2
      exact ⟨o, e, ex.2.1⟩
    · obtain ⟨o, _, _, _, e, ex, _⟩ := I.hok p _ hk
      refine ⟨⟨o, e, ex.1⟩, fun a e2 => ?_⟩
      cases e2
      exact ⟨o, e, ex.2.1⟩
  | _ => exact False.elim ty
def tBM (K : PySem.W.Frag) (T : String) (r : V -> List V -> Hp -> VK -> Prop) (to : TE) (t : TA) : TE := fun σ H Q => to σ H fun x H1 => tyV K T x H1 /\ t σ H1 fun xs H2 => r x xs H2 Q
variable {o e : Expr} {es : List Expr} {to : TE} {t : TA} {name : Str} {apos cpos : Pos} {T id : String} {r : V -> List V -> Hp -> VK -> Prop}
theorem pe_bm (pa : PlainAttrs T) (slot : Slot T name id) (hty : typeOf (.builtin id) = pure (.type "method_descriptor")) (hm : MtR X id r) (ho : PE X o to) (ha : PA X (e :: es) t)
    (hbase : attributeBase o name X.env (eval o X.env) = eval o X.env := by rfl)
    (hfew : ((backTo cpos (starEach (e :: es) X.env)).all (fun x => !x.1) && (backToKw cpos (keywordEach [] X.env)).all (fun x => x.1.isSome)
      && decide ((e :: es).length + ([] : List Keyword).length + (if ([] : List Keyword).isEmpty then 0 else 1) < 30)) = true := by rfl)
    (hline : (apos.endLine == cpos.line) = true := by rfl) (hs : starEach (e :: es) X.env = (false, eval e X.env) :: starEach es X.env := by rfl) (hplain : (backTo cpos (starEach es X.env)).any (·.1) = false := by rfl) :
    PE X (.Call (.Attribute o name apos) (e :: es) [] cpos) (tBM X.K T r to t) := by
  intro pins s σ H Q I h
  refine wpAny_Call_method_late hbase hfew hline rfl (thn (ho pins s σ H _ I h) fun v s1 ⟨x, H1, I1, r1, ty, q1⟩ => ?_)
  obtain ⟨h1, h2⟩ := tyV_is I1 r1 ty
  refine ⟨T, id, pa, slot, hty, h1, h2, ?_⟩
  have hA := ha cpos pins s1 σ H1 _ I1 q1
  rw [hs] at hA ⊢
  refine Calls.callWith_builtin (by show (false || (backTo cpos (starEach es X.env)).any (·.1)) = false; rw [hplain] <;> rfl) (Calls.evalArgs_plain ?_)
  exact thn hA fun us s2 ⟨vs, H2, I2, r2, q2⟩ => hm pins s2 σ H2 x vs v us Q I2 r1 r2 q2
end
end L2
namespace L2
open PySem PySem.Spec PyProof.Rows
def MtM (X : Cx) (id : String) (r : V -> List V -> Hp -> VK -> Prop) : Prop :=
  ∀ (pins : List (Addr × Obj)) (s : Shared) (σ : St) (H : Hp) (x : V) (xs : List V) (v : Value) (us : List Value) (Q : VK), Inv X pins σ H s -> zae x v -> zag xs us -> r x xs H Q ->
    wpAny (model X.prog X.w) X.A (call (.builtin id) (v :: us)) (EP X pins σ Q) X.xe s
theorem zag.one : ∀ {x : V} {us : List Value}, zag [x] us -> ∃ u, us = [u] /\ zae x u
  | _, _, .cons r .nil => ⟨_, rfl, r⟩
theorem zag.two : ∀ {x y : V} {us : List Value}, zag [x, y] us -> ∃ u v, us = [u, v] /\ zae x u /\ zae y v
  | _, _, _, .cons r (.cons q .nil) => ⟨_, _, rfl, r, q⟩
theorem zag.zero : ∀ {us : List Value}, zag [] us -> us = []
  | _, .nil => rfl
theorem zag.rep {xs : List V} {us : List Value} (h : zag xs us) : ∀ k : Nat, zag (List.replicate k xs).flatten (List.replicate k us).flatten
  | 0 => .nil
  | k + 1 => by
    rw [List.replicate_succ, List.replicate_succ, List.flatten_cons, List.flatten_cons]
    exact zag.append h (zag.rep h k)
theorem foldl_rep (its : List Value) : ∀ (k : Nat) (acc : List Value),
    List.foldl (fun x1 x2 => x1 ++ x2) acc.toArray (List.replicate k its.toArray) = (acc ++ (List.replicate k its).flatten).toArray
  | 0, acc => by simp
  | k + 1, acc => by
    have e : acc.toArray ++ its.toArray = (acc ++ its).toArray := by simp
    have e2 : (acc ++ its) ++ (List.replicate k its).flatten = acc ++ (List.replicate (k + 1) its).flatten := by
      rw [List.replicate_succ, List.flatten_cons, List.append_assoc]
    rw [<- e2, <- foldl_rep its k (acc ++ its), <- e, List.replicate_succ, List.foldl_cons]
section
variable {X : Cx} {pins : List (Addr × Obj)} {σ : St} {H : Hp} {s : Shared} {l b : Addr} {xs ys zs : List V}
theorem Inv.lset {its its' : List Value} {n : Nat} {f : Array Value -> Array Value} {t' : Nat} (I : Inv X pins σ H s) (hH : H l = some (.lst xs))
    (e : s.heap.get? l = some { cls := .type "list", data := .seq its.toArray n }) (hf : f its.toArray = its'.toArray) (hv : zag ys its') (hz : ys.length <= sizeLine) :
    Inv X pins σ (upd H l (.lst ys)) { s with heap := s.heap.update l (Obj.mapSeq f), toks := t' } := by
  have q := PySem.IsL.update e f
  rw [hf] at q
  refine I.write (x := l) (e := l) (by rw [hH]; exact trivial) (.inl rfl) (fun b' u hb hu => (Heap.get?_update_other s.heap (Obj.mapSeq f) (Ne.symm hb)).trans hu) ⟨_, q⟩ ?_
  exact ⟨hz, its', _, hv, q⟩
theorem Inv.lnew {its : List Value} {t' : Nat} (I : Inv X pins σ H s) (hv : zag ys its) (hz : ys.length <= sizeLine) :
    Inv X pins σ (upd H s.heap.objs.size (.lst ys)) { s with heap := s.heap.push { cls := .type "list", data := .seq its.toArray }, toks := t' } :=
  I.laid (fun _ _ q => Heap.get?_push_of_some _ q) (Nat.le_refl _) ⟨hz, its, 0, hv, Heap.get?_push_size _ rfl⟩
theorem Inv.fresh (I : Inv X pins σ H s) : H s.heap.objs.size = none := I.hok.fresh (Nat.le_refl _)
theorem Inv.lstM (I : Inv X pins σ H s) (hH : H l = some (.lst xs)) : xs.length <= sizeLine /\ ∃ (its : List Value) (n : Nat), zag xs its /\ xs.length = its.length /\ s.heap.get? l = some { cls := .type "list", data := .seq its.toArray n } := by
  obtain ⟨z, its, n, r, e⟩ := I.hok l _ hH
  exact ⟨z, its, n, r, r.length, e⟩
theorem notLongL {n : Nat} (h : n <= sizeLine) : Builtin.List.listTooLong n = false := by
  unfold Builtin.List.listTooLong
  exact decide_eq_false (by omega)
end
section
variable {X : Cx}
def rAppend : V -> List V -> Hp -> VK -> Prop := fun x vs H Q => ∃ l xs y, x = .ref l /\ vs = [y] /\ H l = some (.lst xs) /\ xs.length < sizeLine /\ Q .non (upd H l (.lst (xs ++ [y])))
theorem mt_append : MtM X "list.append" rAppend := by
  intro pins s σ H x vs v us Q I rx rv h
  obtain ⟨l, xs, y, rfl, rfl, hH, hz, q⟩ := h
  cases rx
  obtain ⟨u, rfl, ru⟩ := rv.one
  obtain ⟨z, its, n, r, hl, e⟩ := I.lstM hH
  refine call_meets F.slot_list_append ⟨_, e, rfl⟩ F.entry_list_append (F.args_list_append_2 _ _) (PySem.list_append l its.toArray n u (by rw [List.size_toArray]; omega)) ⟨e, ?_⟩
  refine ⟨.non, _, I.lset (its' := its ++ [u]) hH e (by simp) (r.append (.cons ru .nil)) ?_, rfl, q⟩
  rw [List.length_append, List.length_singleton]
  omega
def rExtend : V -> List V -> Hp -> VK -> Prop := fun x vs H Q => ∃ l b xs zs, x = .ref l /\ vs = [.ref b] /\ H l = some (.lst xs) /\ H b = some (.lst zs) /\ xs.length + zs.length <= sizeLine /\ Q .non (upd H l (.lst (xs ++ zs)))
theorem mt_extend : MtM X "list.extend" rExtend := by
  intro pins s σ H x vs v us Q I rx rv h
  obtain ⟨l, b, xs, zs, rfl, rfl, hH, hB, hz, q⟩ := h
  cases rx
  obtain ⟨u, rfl, ru⟩ := rv.one
  cases ru
  obtain ⟨z, its, n, r, hl, e⟩ := I.lstM hH
  obtain ⟨z2, its2, n2, r2, hl2, e2⟩ := I.lstM hB
  have hsz : its.toArray.size + its2.toArray.size <= sizeLine := by rw [List.size_toArray, List.size_toArray]; omega
  have hlong : ¬ (!its.toArray.isEmpty && Builtin.List.listTooLong (its.toArray.size + its2.toArray.size)) = true := by
    rw [notLongL hsz, Bool.and_false]
    exact Bool.false_ne_true
  refine call_meets F.slot_list_extend ⟨_, e, rfl⟩ F.entry_list_extend (F.args_list_extend_2 _ _)
    (AutoSeq1.list_extend_list_list_0 l its.toArray n b its2.toArray n2 hlong (by rw [List.size_toArray]; omega) (by omega)) ⟨e, e2, ?_⟩
  refine ⟨.non, _, I.lset (its' := its ++ its2) hH e (by simp) (r.append r2) ?_, rfl, q⟩
  rw [List.length_append]
  omega
def rCat : R2 := fun x y H Q => ∃ l b xs zs, x = .ref l /\ y = .ref b /\ H l = some (.lst xs) /\ H b = some (.lst zs) /\ xs.length + zs.length <= sizeLine /\ ∀ p, H p = none -> Q (.ref p) (upd H p (.lst (xs ++ zs)))
theorem op_cat : OpR X (binaryOp .Add) rCat := by
  intro pins s σ H x y v u Q I rx ry h
  obtain ⟨l, b, xs, zs, rfl, rfl, hH, hB, hz, q⟩ := h
  cases rx
  cases ry
  obtain ⟨z, its, n, r, hl, e⟩ := I.lstM hH
  obtain ⟨z2, its2, n2, r2, hl2, e2⟩ := I.lstM hB
  refine PySem.P.add_list e e2 ?_ (by rw [List.size_toArray, List.size_toArray]; omega)
  have ea : its.toArray ++ its2.toArray = (its ++ its2).toArray := by simp
  rw [ea]
  exact ⟨.ref _, _, I.lnew (t' := s.toks) (r.append r2) (by rw [List.length_append]; omega), rfl, q _ I.fresh⟩
def rRep : R2 := fun x y H Q => ∃ l k xs, x = .ref l /\ y = .int k /\ H l = some (.lst xs) /\ -(2 ^ 63) <= k /\ k < 2 ^ 63 /\ xs.length * k.toNat <= sizeLine /\
  ∀ p, H p = none -> Q (.ref p) (upd H p (.lst (List.replicate k.toNat xs).flatten))
theorem len_rep {α : Type} (xs : List α) (k : Nat) : (List.replicate k xs).flatten.length = k * xs.length := by
  induction k with
  | zero => simp
  | succ k ih => rw [List.replicate_succ, List.flatten_cons, List.length_append, ih, Nat.succ_mul, Nat.add_comm]
theorem op_rep : OpR X (binaryOp .Mult) rRep := by
  intro pins s σ H x y v u Q I rx ry h
  obtain ⟨l, k, xs, rfl, rfl, hH, h1, h2, hz, q⟩ := h
  cases rx
  obtain ⟨t, rfl⟩ := ry
  obtain ⟨z, its, n, r, hl, e⟩ := I.lstM hH
  have hlen : its.toArray.size * k.toNat <= sizeLine := by rw [List.size_toArray, <- hl]; exact hz
  have hcap : ¬ its.toArray.size * k.toNat > (2 ^ 63 - 1) / 8 := by
    have : (sizeLine : Nat) <= (2 ^ 63 - 1) / 8 := by decide
    omega
  have hfit : ¬ (!Builtin.List.listFitsIndex k) = true := by
    rw [fitsIndex_both h1 h2]
    exact Bool.false_ne_true
  have hlong : ¬ Builtin.List.listTooLong (its.toArray.size * k.toNat) = true := by
    rw [notLongL hlen]
    exact Bool.false_ne_true
  have hnew : List.foldl (fun x1 x2 => x1 ++ x2) #[] (List.replicate (if its.toArray.isEmpty = true then 0 else k.toNat) its.toArray) = (List.replicate k.toNat its).flatten.toArray := by
    have f0 : ∀ m : Nat, List.foldl (fun x1 x2 => x1 ++ x2) #[] (List.replicate m its.toArray) = (List.replicate m its).flatten.toArray := fun m => by
      have := foldl_rep its m []
      rw [List.nil_append] at this
      exact this
    rw [f0]
    cases its with
    | nil => simp
    | cons a r' => rw [if_neg (by simp)]
  refine wpAny_binaryOp_repeat_ref (T := "list") (U := "int") (by decide) ⟨_, e, rfl⟩ (fun s' => typeIs_int s' k t) noFill_list_mul F.fills_int_mul F.slot_int_rmul repeat_list F.slot_int_index.lookup
    (call_meets F.slot_int_rmul (typeIs_int s k t) F.entry_int_rmul (F.args_int_rmul_2 _ _) (int___rmul___int_list k t l its.toArray n)
      ⟨e, rfl, ⟨_, e, rfl⟩, call_meets F.slot_list_mul ⟨_, e, rfl⟩ F.entry_list_mul (F.args_list_mul_2 _ _) (AutoListH.list___mul___list_int_3 l its.toArray n k t hfit hcap hlong) ⟨e, ?_⟩⟩)
  rw [hnew]
  exact ⟨.ref _, _, I.lnew (t' := s.toks) (r.rep k.toNat) (by rw [len_rep, Nat.mul_comm]; exact hz), rfl, q _ I.fresh⟩
end
section
variable {prog : Program} {w : World} {A : Around} {E : Value -> Shared -> Prop} {s : Shared}
set_option maxRecDepth 100000 in
end
section
variable {X : Cx}
end
end L2
namespace Att
open PySem PySem.W PySem.Calls PyProof.Rows
theorem ints_of_wellAll {P : Params} {h : Heap} : ∀ (ns : List Int) (vs : List Value), WellAll P h vs (ns.map WData.int) -> IntsAre vs ns := by
  intro ns
  induction ns with
  | nil =>
    intro vs w
    rw [List.map_nil] at w
    cases w
    exact .nil
  | cons n ns ih =>
    intro vs w
    rw [List.map_cons] at w
    cases w with
    | cons a b =>
      cases a
      exact .cons _ _ (ih _ b)
theorem script_of {l : OpenLaw} {n : Nat} (hn : l.most = some n) {P : Params} {h : Heap} {args : List WData} {vals : List Value}
    (hpre : l.row.toRowW.claim.pre args = true) (hwl : WellAll P h vals args) :
    ∃ a vs ns, vals = [Value.ref a] /\ args = [WData.list (ns.map WData.int)] /\ h.get? a = some { cls := .type "list", data := .seq vs.toArray } /\ IntsAre vs ns /\ ns.length <= n := by
  have hsh : WShape.hasAll [] args [.list .int] = true := (pre_splitW hpre).1
  have hc : l.pre.holds [] { args := args } = true := (pre_splitW hpre).2
  obtain ⟨d, r, rfl, h1, h2⟩ := hasAllW_cons hsh
  obtain rfl := hasAllW_nil h2
  obtain ⟨xs, rfl, h3⟩ := hasW_list h1
  obtain ⟨ns, rfl⟩ := items_int h3
  have hlen : ns.length <= n := by
    unfold OpenLaw.pre at hc
    have h4 : (WTm.not (.lt (.lit (.int (n : Int))) (.len (.arg 0)))).holds [] { args := [.list (ns.map .int)] } = true := by
      have h4 := (holds_andW hc).1
      rw [hn] at h4
      exact h4
    have h5 := condW_of h4 (w_not (w_lt w_lit (w_len_list (w_arg rfl))))
    rw [List.length_map] at h5
    refine Nat.le_of_not_lt fun q => ?_
    have q' : (n : Int) < ((ns.length : Nat) : Int) := by omega
    first
      | (rw [decide_eq_true q'] at h5; exact absurd h5 (by decide))
      | (simp at h5; omega)
  cases hwl with
  | cons w1 w2 =>
    cases w2
    cases w1 with
    | list ho hall => exact ⟨_, _, ns, rfl, rfl, ho, ints_of_wellAll ns _ hall, hlen⟩
theorem post_true (l : OpenLaw) (args : List WData) : l.row.toRowW.claim.post args (.bool true) args = true :=
  postW_of (r := l.row.toRowW) (X := (true == true))
    (show WShape.has [] (.bool true) .bool = true by first | rfl | decide | simp [WShape.has, WShape.arms, WShape.armsAll])
    (show (WTm.eq .res (.lit (.bool true))).value [] { args := args, res := some (.bool true), after := args } = some (.bool (true == true)) from w_eq_bool (w_res rfl) w_lit) rfl
theorem attach_call {l : OpenLaw} {n : Nat} {q : Program} {loose : List Str} {XP : (Str -> Option Value) -> Heap -> Prop} {YP : World -> Heap -> Prop} {d : DefRec}
    (hn : l.most = some n) (hdf : d.params.defaults = [])
    (call : ∀ (w : World) (s₀ s₁ : Shared) (mg mb : Str -> Option Value) (fa : Addr) (o : Obj) (pm cd doc : Value) (a : Addr) (vs : List Value) (ns : List Int),
      Ground q loose [] XP w s₀ mg mb s₁.heap -> YP w s₁.heap ->
      s₁.heap.get? fa = some o -> o.data = .func (docDef d.name d.params d.body d.scope pm cd doc) -> s₁.heap.CodeRec cd d.name -> mg d.name = some (.ref fa) ->
      s₁.heap.get? a = some { cls := .type "list", data := .seq vs.toArray } -> IntsAre vs ns -> ns.length <= n -> s₁.gens = #[] ->
      codeAny (model l.prog w) callerA (.call (.ref fa) ⟨[.ref a], []⟩) (fun r s' => r = .ok (.ret (.bool true)) /\ OldK s₁.heap s'.heap /\ s'.os = s₁.os /\ AllBare s'.gens) s₁) :
    WalkO q loose XP YP l.row.toRowW d [] (fun f vs => PySem.call f vs) := by
  intro w s₀ s₁ mg mb G Y fa o pm cd doc dV kV ho hd hcd hD hmg hg args vals as hpre hlay hrd hwl hlo
  obtain rfl : dV = .none := Dflts.none hD hdf
  obtain rfl : kV = .none := Dflts.noKw hD
  obtain ⟨a, vs, ns, rfl, rfl, hobj, hints, hlen⟩ := script_of hn hpre hwl
  refine enter_call (codeAny_mono (call w s₀ s₁ mg mb fa o pm cd doc a vs ns G Y ho (fd_plain hd) hcd hmg hobj hints hlen hg) fun r s' hq => ?_)
  obtain ⟨rfl, h2, h3, h4⟩ := hq
  exact ⟨.inl ⟨.bool true, .bool true, [], rfl, fun _ => rfl, .bool true, post_true l _, fun _ => ⟨List.Pairwise.nil, fun _ hm => (nomatch hm)⟩⟩, h2, h3, h4⟩
section
variable {prog : Program} {w : World} {A : Around} {E : Value -> Shared -> Prop} {s : Shared} {K : Frag}
def ledger (h : Heap) (L d : Addr) : List (Addr × Obj) := (List.range h.objs.size).filterMap fun a => if a = L \/ a = d then none else (h.get? a).map fun o => (a, o)
end
end Att
namespace L2
open PySem PySem.Spec PyProof.Rows
theorem vals_ints : ∀ {vs : List Value} {ns : List Int}, IntsAre vs ns -> zag (ns.map V.int) vs
  | _, _, .nil => .nil
  | _, _, .cons n t h => .cons ⟨t, rfl⟩ (vals_ints h)
def Only (H : Hp) : Prop := ∀ b, H b = none \/ ∃ o xs, H b = some (.frz o (.lst xs))
theorem law_call {P : Program} {w : World} {K : PySem.W.Frag} {mg mb : Str -> Option Value} {CX : CXT} {k : Nat} {fa a : Addr} {fd : FuncData} {x : Str} {sp : Sp} {s₁ : Shared} {vs : List Value} {ns : List Int}
    (KX : K.In s₁.heap) (hns : s₁.heap.Ns mainGlobals mg) (hb : s₁.heap.Ns builtinsNs mb) (hbb : ∀ x : Str, x ≠ "__name__" -> mb x = bootBuiltins x) (hlim : s₁.heap.NoLimit) (hg : s₁.gens = #[])
    (ha : s₁.heap.get? a = some { cls := .type "list", data := .seq vs.toArray }) (hi : IntsAre vs ns) (hl : ns.length <= sizeLine) (hr : Room k callerA)
    (F : ∀ base : Heap, K.In base -> base.Ns mainGlobals mg -> FnOk P w K mg base CX k fa fd [x] sp) (hbind : ∀ (s : Shared) (u : Value), BindsTo s fd ⟨[u], []⟩ [(x, u)])
    (hsp : ∀ H : Hp, Only H -> SqL K H a (ns.map V.int) -> sp [.ref a] H (fun v _ => v = .bl true) fun _ _ _ => False)
    (hCX : ∀ H e s', CX [] H s₁ (fun _ _ _ => False) e s' -> False) :
    codeAny (model P w) callerA (.call (.ref fa) ⟨[.ref a], []⟩) (fun r s' => r = .ok (.ret (.bool true)) /\ OldK s₁.heap s'.heap /\ s'.os = s₁.os /\ AllBare s'.gens) s₁ := by
  have rv := vals_ints hi
  have lenV := hi.length
  have core : ∀ H : Hp, Only H -> SqL K H a (ns.map V.int) -> HOk P w H s₁.heap -> (∀ b, H b ≠ none -> b = a) -> (H a ≠ none -> K.lookup a = none) ->
      codeAny (model P w) callerA (.call (.ref fa) ⟨[.ref a], []⟩) (fun r s' => r = .ok (.ret (.bool true)) /\ OldK s₁.heap s'.heap /\ s'.os = s₁.os /\ AllBare s'.gens) s₁ := by
    intro H hO hS hok hA hK
    have base_of : ∀ {b : Addr} {o : Obj}, s₁.heap.get? b = some o -> H b = none -> (hidT s₁.heap H).get? b = some o := fun e n => hidT_get e n
    have noA : ∀ {b : Addr} {o : Obj} {es : Array DictEntry} {ep : Nat}, s₁.heap.get? b = some o -> o.data = .dict es ep -> H b = none := fun {b o es ep} e d => by
      cases q : H b with
      | none => rfl
      | some u =>
        have e' : b = a := hA b (by rw [q]; simp)
        subst e'
        rw [ha] at e; cases e
        have d' : Data.seq vs.toArray _ = Data.dict es ep := d
        cases d'
    have nsK : ∀ {b : Addr} {m : Str -> Option Value}, s₁.heap.Ns b m -> (hidT s₁.heap H).Ns b m := fun {b m} ⟨o, es, ep, e, d, r⟩ => ⟨o, es, ep, base_of e (noA e d), d, r⟩
    have hKb : K.In (hidT s₁.heap H) := fun b o e => base_of (KX b o e) (by
      cases q : H b with
      | none => rfl
      | some u =>
        have e' : b = a := hA b (by rw [q]; simp)
        subst e'
        rw [hK (by rw [q]; simp)] at e; cases e)
    have hM : Mod K mg (hidT s₁.heap H) := ⟨hKb, nsK hns, ⟨mb, nsK hb, hbb⟩, let ⟨mc, h1, h2⟩ := hlim; ⟨mc, nsK h1, h2⟩⟩
    have e0 : Env0 P w K mg (hidT s₁.heap H) callerA [] s₁ H := ⟨rfl, hM, fun b o e => of_hidT e, Nat.le_of_eq (hidT_size _ _), trivial, fun b hb => absurd (show b ∈ ([] : List Addr) from hb) (by simp), hok, .of_eq hg⟩
    refine codeAny_mono ((F _ hKb (nsK hns)).run callerA [] s₁ H ⟨[.ref a], []⟩ [.ref a] [.ref a] _ _ hr e0 (hbind s₁ (.ref a)) (.cons rfl .nil) (hsp H hO hS)) fun r s' h => ?_
    cases r with
    | error e => exact (hCX H e s' h).elim
    | ok fl =>
      cases fl with
      | next => exact False.elim h
      | brk => exact False.elim h
      | cont => exact False.elim h
      | ret u =>
        obtain ⟨v, H', os, bare, un, hok', r', q⟩ := h
        have q' : v = .bl true := q
        subst q'
        obtain rfl : u = Value.bool true := r'
        refine ⟨rfl, OldK.of_keep fun b o e => ?_, os, bare⟩
        cases q : H b with
        | none => exact un.keep b o e q (by intro z; exact absurd (show b ∈ ([] : List Addr) from z) (by simp)) (by simp)
        | some u =>
          rcases hO b with z | ⟨ob, xs, z⟩
          · rw [q] at z; cases z
          · have z2 := un.frzs b ob _ z
            obtain ⟨e1, _⟩ := hok b _ z
            obtain ⟨e2, _⟩ := hok' b _ z2
            rw [e] at e1; cases e1
            exact e2
  cases hk : K.lookup a with
  | some o =>
    have e := KX a o hk
    rw [ha] at e
    cases e
    refine core (fun _ => none) (fun _ => .inl rfl) (.inr ⟨_, vs.toArray, _, hk, rfl, rfl, rfl, by rw [List.size_toArray, lenV]; exact hl, by simpa using rv⟩) (fun b u z => by have z' : (none : Option HO) = some u := z; cases z') (fun b z => absurd rfl z) fun z => absurd rfl z
  | none =>
    refine core (fun b => if b = a then some (.frz { cls := .type "list", data := .seq vs.toArray } (.lst (ns.map V.int))) else none) (fun b => ?_) (.inl (.inr ⟨{ cls := .type "list", data := .seq vs.toArray }, if_pos rfl⟩)) (fun b u z => ?_) (fun b z => ?_) fun _ => hk
    · by_cases hb : b = a
      · exact .inr ⟨_, _, if_pos hb⟩
      · exact .inl (if_neg hb)
    · by_cases hb : b = a
      · have z' := (if_pos hb).symm.trans z
        cases z'
        subst hb
        exact ⟨ha, by rw [List.length_map]; exact hl, vs, _, rv, ha⟩
      · have z' := (if_neg hb).symm.trans z
        cases z'
    · by_cases hb : b = a
      · exact hb
      · exact absurd (if_neg hb) z
end L2
namespace L2
open PySem PySem.Spec PyProof.Rows
abbrev KOf {K : PySem.W.Frag} {h : Heap} (_ : K.In h) : PySem.W.Frag := K
theorem walk_of {l : PySem.W.OpenLaw} {n k : Nat} {q : Program} {loose : List Str} {XP : (Str -> Option Value) -> Heap -> Prop} {YP : World -> Heap -> Prop} {d : DefRec} {K : Params -> PySem.W.Frag} {CX : World -> CXT} {sp : World -> Sp} {x : Str}
    (hn : l.most = some n) (hn2 : n <= sizeLine) (hdf : d.params.defaults = []) (hr : Room k callerA)
    (hY : ∀ (w : World) (h : Heap), YP w h -> (K w.params).In h)
    (F : ∀ (w : World) (mg : Str -> Option Value) (fa : Addr) (h : Heap), (K w.params).In h -> h.Ns mainGlobals mg -> mg d.name = some (.ref fa) ->
      ∃ fd : FuncData, (∀ (s : Shared) (u : Value), BindsTo s fd ⟨[u], []⟩ [(x, u)]) /\
        ∀ base : Heap, (K w.params).In base -> base.Ns mainGlobals mg -> FnOk l.prog w (K w.params) mg base (CX w) k fa fd [x] (sp w))
    (hsp : ∀ (w : World) (H : Hp) (a : Addr) (ns : List Int), ns.length <= n -> Only H -> SqL (K w.params) H a (ns.map V.int) -> sp w [.ref a] H (fun v _ => v = .bl true) fun _ _ _ => False)
    (hCX : ∀ (w : World) (H : Hp) (s : Shared) (e : Value) (s' : Shared), CX w [] H s (fun _ _ _ => False) e s' -> False) :
    PySem.W.WalkO q loose XP YP l.row.toRowW d [] (fun f vs => PySem.call f vs) := by
  refine Att.attach_call hn hdf fun w s₀ s₁ mg mb fa o pm cd doc a vs ns G Y ho hd hcd hmg hobj hints hlen hg => ?_
  have KX := hY w _ Y
  obtain ⟨fd, hb, hF⟩ := F w mg fa _ KX G.T.g hmg
  exact law_call KX G.T.g G.T.b G.T.builtins G.T.nolimit hg hobj hints (Nat.le_trans hlen hn2) hr hF hb (fun H hO hS => hsp w H a ns hlen hO hS) fun H e s' => hCX w H s₁ e s'
end L2
namespace L2
open PySem PySem.Spec PyProof.Rows
def zam (s : Stmt) : Arguments := match s with
  | .FunctionDef _ a _ _ _ _ _ _ _ _ => a
  | _ => { posonlyargs := [], args := [], vararg := none, kwonlyargs := [], kw_defaults := [], kwarg := none, defaults := [] }
def zan (s : Stmt) : List Stmt := match s with
  | .FunctionDef _ _ b _ _ _ _ _ _ _ => b
  | _ => []
def zao (s : Stmt) : Scope := match s with
  | .FunctionDef _ _ _ _ _ _ sc _ _ _ => sc
  | _ => { kind := .function, names := [], isGenerator := false, isCoroutine := false }
abbrev CX0 : CXT := fun _ _ _ _ _ _ => False
abbrev E0 : XK := fun _ _ _ => False
structure Fun (K : PySem.W.Frag) (x qual : Str) (st : Stmt) (f : Addr) (fd : FuncData) : Prop where
  ex : ∃ (oc : Value) (od : Option Addr) (kV doc pm : Value) (an : Option Addr) (cdv ct : Value) (osl : Array (Option Value)),
    fd = PySem.W.fnOf x qual (zam st) (zan st) (zao st) .none kV doc pm an cdv ct /\ K.lookup f = some ⟨oc, od, .func fd, osl⟩ /\ PySem.W.codeIn K cdv qual = true
  kp : PySem.W.keepIn K (.ref f) = true
section
variable {P : Program} {w : World} {K : PySem.W.Frag} {mg : Str -> Option Value} {base : Heap}
theorem Fun.ok {x qual : Str} {st : Stmt} {f : Addr} {fd : FuncData} {N ps : List Str} {k : Nat} {sp : Sp} (F : Fun K x qual st f fd) (S : FnScope N ps (zao st)) (len : ∀ vs H Q E, sp vs H Q E -> vs.length = ps.length)
    (hbody : ∀ (cdv : Value) (A : Around) (outer : List Env) (s : Shared) (H : Hp) (vs : List V) (Q : VK) (E : XK), Room k (A.deeper (envOfC qual (zao st) s.heap.objs.size f cdv)) -> sp vs H Q E ->
      ∃ t, PSs (cxOf CX0 P w K mg base N qual (zao st) f cdv A outer s H E).nox (zan st) t /\ t { nx := fun _ H' => Q .non H', rt := Q } (start N vs) H) : FnOk P w K mg base CX0 (k + 1) f fd ps sp := by
  obtain ⟨oc, od, kV, doc, pm, an, cdv, ct, osl, rfl, lk, hcd⟩ := F.ex
  refine fn_of lk hcd S len fun A outer s H vs Q E hr hsp => ?_
  obtain ⟨t, h, q⟩ := hbody cdv A outer s H vs Q E hr hsp
  exact ⟨t, h.nox, q⟩
theorem Fun.binds {x qual : Str} {st : Stmt} {f : Addr} {fd : FuncData} {ps : List Str} (F : Fun K x qual st f fd)
    (h : ∀ (kV doc pm : Value) (an : Option Addr) (cdv ct : Value) (us : List Value), us.length = ps.length -> bindArgs (PySem.W.fnOf x qual (zam st) (zan st) (zao st) .none kV doc pm an cdv ct) ⟨us, []⟩ = pure (ps.zip us)) : Binds K fd ps [] := by
  obtain ⟨oc, od, kV, doc, pm, an, cdv, ct, osl, rfl, lk, hcd⟩ := F.ex
  exact .all (h kV doc pm an cdv ct)
theorem fun_mk {x qual : Str} {st : Stmt} {f : Addr} {oc : Value} {od an : Option Addr} {osl : Array (Option Value)} {kV doc pm cdv ct : Value} (l : K.lookup f = some ⟨oc, od, .func (PySem.W.fnOf x qual (zam st) (zan st) (zao st) .none kV doc pm an cdv ct), osl⟩)
    (c : PySem.W.codeIn K cdv qual = true) (k : PySem.W.keepIn K (.ref f) = true) : Fun K x qual st f (PySem.W.fnOf x qual (zam st) (zan st) (zao st) .none kV doc pm an cdv ct) := ⟨⟨oc, od, kV, doc, pm, an, cdv, ct, osl, rfl, l, c⟩, k⟩
end
theorem small1000 {n : Nat} (h : n <= 1000) : n < sizeLine := Nat.lt_of_le_of_lt h (by decide)
section
variable {X : Cx}
end
def Same (H H' : Hp) : Prop := ∀ b o, H b = some o -> H' b = some o
theorem Same.refl (H : Hp) : Same H H := fun _ _ h => h
theorem Same.trans {H H1 H2 : Hp} (a : Same H H1) (b : Same H1 H2) : Same H H2 := fun c o h => b c o (a c o h)
theorem Same.free {H H' : Hp} (e : Same H H') {l : Addr} (h : H' l = Option.none) : H l = Option.none := by
  cases q : H l with
  | none => rfl
  | some o =>
    rw [e l o q] at h
    cases h
theorem Same.seq {K : PySem.W.Frag} {H H' : Hp} {a : Addr} {xs : List V} (e : Same H H') (h : SqL K H a xs) : SqL K H' a xs := by
  rcases h with (h | ⟨o, h⟩) | h
  · exact .inl (.inl (e _ _ h))
  · exact .inl (.inr ⟨o, e _ _ h⟩)
  · exact .inr h
end L2
namespace L4
open PySem PySem.Spec PyProof.Rows L2
theorem hide_ex {α : Type} (a : α) : ∃ b, b = a := ⟨a, rfl⟩
noncomputable def hide {α : Type} (a : α) : α := Classical.choose (hide_ex a)
@[simp] theorem zbt {α : Type} (a : α) : hide a = a := Classical.choose_spec (hide_ex a)
inductive D where
  | non | bl (b : Bool) | int (i : Int) | str (x : Str) | tup (xs : List D) | scr (ns : List Int) | ref (n : Nat)
  | lst (xs : List D) | dic (ks : List Key) (xs : List D) | obj (c : Nat) (ns : List Str) (xs : List D) | exn (c : Nat)
inductive Ob where
  | lst (xs : List D)
  | dic (kvs : List (Key × D))
  | ins (c : Nat) (fs : List (Str × D))
abbrev Sto := List Ob
abbrev St := L2.St
abbrev Ev := List (Option D)
structure Xn where
  cls : Nat
inductive Out (α : Type) where
  | ok (a : α) (σ : Sto)
  | ex (x : Xn) (σ : Sto)
  | bad
abbrev M (α : Type) := Sto -> Out α
def ret {α : Type} (a : α) : M α := fun σ => .ok a σ
def bad {α : Type} : M α := fun _ => .bad
def Out.bind {α β : Type} (o : Out α) (k : α -> M β) : Out β := match o with
  | .ok a σ' => k a σ'
  | .ex x σ' => .ex x σ'
  | .bad => .bad
def bnd {α β : Type} (m : M α) (k : α -> M β) : M β := fun σ => (m σ).bind k
inductive Fl where
  | nx (ρ : Ev) | rt (d : D) | bk (ρ : Ev) | ct (ρ : Ev) | xc (ρ : Ev) (x : Xn)
structure Tb where
  K : PySem.W.Frag
  ca : Nat -> Addr
def Tb.cv (T : Tb) (x : Xn) : Value := .ref (T.ca x.cls)
def ExcAt (C a : Addr) : Heap -> Prop := fun h => ∃ o, h.get? a = some o /\ o.cls = .ref C
def Scr (K : PySem.W.Frag) (H : Hp) (a : Addr) (ns : List Int) : Prop :=
  (∃ o, H a = some (.frz o (.lst (ns.map V.int)))) \/
    ∃ (o : Obj) (its : Array Value) (n : Nat), K.lookup a = some o /\ o.cls = .type "list" /\ o.dict = none /\ o.data = .seq its n /\ its.size <= sizeLine /\ zag (ns.map V.int) its.toList
theorem Scr.seq {K : PySem.W.Frag} {H : Hp} {a : Addr} {ns : List Int} (h : Scr K H a ns) : SqL K H a (ns.map V.int) := by
  rcases h with ⟨o, h⟩ | h
  · exact .inl (.inr ⟨o, h⟩)
  · exact .inr h
mutual
def Rep (T : Tb) (μ : List Addr) (H : Hp) : D -> V -> Prop
  | .non, v => v = .non
  | .bl b, v => v = .bl b
  | .int i, v => v = .int i
  | .str x, v => v = .str x
  | .tup ds, v => ∃ p vs, v = .ref p /\ H p = some (.tup vs) /\ zaf T μ H ds vs
  | .scr ns, v => ∃ a, v = .ref a /\ Scr T.K H a ns
  | .ref n, v => ∃ a, v = .ref a /\ μ[n]? = some a
  | .lst ds, v => ∃ a vs, v = .ref a /\ a ∉ μ /\ H a = some (.lst vs) /\ zaf T μ H ds vs
  | .dic ks ds, v => ∃ a kvs, v = .ref a /\ a ∉ μ /\ H a = some (.dK kvs) /\ kvs.map (·.1) = ks /\ zaf T μ H ds (kvs.map (·.2))
  | .obj c ns ds, v => ∃ a dx fs, v = .ref a /\ a ∉ μ /\ H a = some (.ins (T.ca c) dx fs) /\ fs.map (·.1) = ns /\ zaf T μ H ds (fs.map (·.2))
  | .exn c, v => ∃ a, v = .ref a /\ a ∉ μ /\ H a = some (.ext (ExcAt (T.ca c) a))
def zaf (T : Tb) (μ : List Addr) (H : Hp) : List D -> List V -> Prop
  | [], vs => vs = []
  | d :: ds, vs => ∃ v r, vs = v :: r /\ Rep T μ H d v /\ zaf T μ H ds r
end
structure Ext (μ : List Addr) (H : Hp) (μ' : List Addr) (H' : Hp) : Prop where
  pre : ∃ r, μ' = μ ++ r
  tup : ∀ p xs, H p = some (.tup xs) -> H' p = some (.tup xs)
  frz : ∀ p o u, H p = some (.frz o u) -> H' p = some (.frz o u)
  keep : ∀ p o, H p = some o -> p ∉ μ -> H' p = some o /\ p ∉ μ'
theorem Ext.refl (μ : List Addr) (H : Hp) : Ext μ H μ H := ⟨⟨[], by simp⟩, fun _ _ h => h, fun _ _ _ h => h, fun _ _ h n => ⟨h, n⟩⟩
theorem Ext.trans {μ μ1 μ2 : List Addr} {H H1 H2 : Hp} (a : Ext μ H μ1 H1) (b : Ext μ1 H1 μ2 H2) : Ext μ H μ2 H2 := by
  obtain ⟨⟨r, rfl⟩, t1, f1, k1⟩ := a
  obtain ⟨⟨r', rfl⟩, t2, f2, k2⟩ := b
  exact ⟨⟨r ++ r', by simp⟩, fun p xs h => t2 p xs (t1 p xs h), fun p o u h => f2 p o u (f1 p o u h), fun p o h n => k2 p o (k1 p o h n).1 (k1 p o h n).2⟩
theorem Ext.get {μ μ' : List Addr} {H H' : Hp} (e : Ext μ H μ' H') {n : Nat} {a : Addr} (h : μ[n]? = some a) : μ'[n]? = some a := by
  obtain ⟨⟨r, rfl⟩, _, _⟩ := e
  rw [List.getElem?_append_left (List.getElem?_eq_some_iff.mp h).1]; exact h
mutual
theorem Rep.mono {T : Tb} {μ μ' : List Addr} {H H' : Hp} (e : Ext μ H μ' H') : ∀ (d : D) (v : V), Rep T μ H d v -> Rep T μ' H' d v
  | .non, v, h => by simpa [Rep] using h
  | .bl b, v, h => by simpa [Rep] using h
  | .int i, v, h => by simpa [Rep] using h
  | .str x, v, h => by simpa [Rep] using h
  | .tup ds, v, h => by
    rw [Rep] at h ⊢
    obtain ⟨p, vs, h1, h2, h3⟩ := h
    exact ⟨p, vs, h1, e.tup _ _ h2, zaf.mono e ds vs h3⟩
  | .scr ns, v, h => by
    rw [Rep] at h ⊢
    obtain ⟨a, h1, h2⟩ := h
    refine ⟨a, h1, ?_⟩
    rcases h2 with ⟨o, h2⟩ | h2
    · exact .inl ⟨o, e.frz _ _ _ h2⟩
    · exact .inr h2
  | .ref n, v, h => by
    rw [Rep] at h ⊢
    obtain ⟨a, h1, h2⟩ := h
    exact ⟨a, h1, e.get h2⟩
  | .lst ds, v, h => by
    rw [Rep] at h ⊢
    obtain ⟨a, vs, h1, h2, h3, h4⟩ := h
    exact ⟨a, vs, h1, (e.keep _ _ h3 h2).2, (e.keep _ _ h3 h2).1, zaf.mono e ds vs h4⟩
  | .dic ks ds, v, h => by
    rw [Rep] at h ⊢
    obtain ⟨a, vs, h1, h2, h3, h5, h4⟩ := h
    exact ⟨a, vs, h1, (e.keep _ _ h3 h2).2, (e.keep _ _ h3 h2).1, h5, zaf.mono e ds _ h4⟩
  | .obj c ns ds, v, h => by
    rw [Rep] at h ⊢
    obtain ⟨a, dx, vs, h1, h2, h3, h5, h4⟩ := h
    exact ⟨a, dx, vs, h1, (e.keep _ _ h3 h2).2, (e.keep _ _ h3 h2).1, h5, zaf.mono e ds _ h4⟩
  | .exn c, v, h => by
    rw [Rep] at h ⊢
    obtain ⟨a, h1, h2, h3⟩ := h
    exact ⟨a, h1, (e.keep _ _ h3 h2).2, (e.keep _ _ h3 h2).1⟩
theorem zaf.mono {T : Tb} {μ μ' : List Addr} {H H' : Hp} (e : Ext μ H μ' H') : ∀ (ds : List D) (vs : List V), zaf T μ H ds vs -> zaf T μ' H' ds vs
  | [], vs, h => by simpa [zaf] using h
  | d :: ds, vs, h => by
    rw [zaf] at h ⊢
    obtain ⟨v, r, h1, h2, h3⟩ := h
    exact ⟨v, r, h1, Rep.mono e d v h2, zaf.mono e ds r h3⟩
end
theorem zaf.nil {T : Tb} {μ : List Addr} {H : Hp} : zaf T μ H [] [] := by rw [zaf]
theorem zaf.cons {T : Tb} {μ : List Addr} {H : Hp} {d : D} {v : V} {ds : List D} {vs : List V} (h1 : Rep T μ H d v) (h2 : zaf T μ H ds vs) : zaf T μ H (d :: ds) (v :: vs) := by
  rw [zaf]; exact ⟨v, vs, rfl, h1, h2⟩
theorem zaf.length {T : Tb} {μ : List Addr} {H : Hp} : ∀ {ds : List D} {vs : List V}, zaf T μ H ds vs -> ds.length = vs.length
  | [], vs, h => by rw [zaf] at h; subst h; rfl
  | d :: ds, vs, h => by
    rw [zaf] at h
    obtain ⟨v, r, rfl, _, h3⟩ := h
    simp [zaf.length h3]
theorem zaf.get {T : Tb} {μ : List Addr} {H : Hp} : ∀ {ds : List D} {vs : List V} {i : Nat} {d : D}, zaf T μ H ds vs -> ds[i]? = some d -> ∃ v, vs[i]? = some v /\ Rep T μ H d v
  | [], vs, i, d, h, e => by simp at e
  | d :: ds, vs, 0, x, h, e => by
    rw [zaf] at h
    obtain ⟨v, r, rfl, h2, h3⟩ := h
    simp at e; subst e
    exact ⟨v, rfl, h2⟩
  | d :: ds, vs, i + 1, x, h, e => by
    rw [zaf] at h
    obtain ⟨v, r, rfl, h2, h3⟩ := h
    simpa using zaf.get (i := i) h3 (by simpa using e)
theorem zaf.append {T : Tb} {μ : List Addr} {H : Hp} : ∀ {ds es : List D} {vs us : List V}, zaf T μ H ds vs -> zaf T μ H es us -> zaf T μ H (ds ++ es) (vs ++ us)
  | [], es, vs, us, h, h' => by rw [zaf] at h; subst h; simpa using h'
  | d :: ds, es, vs, us, h, h' => by
    rw [zaf] at h
    obtain ⟨v, r, rfl, h2, h3⟩ := h
    exact zaf.cons h2 (zaf.append h3 h')
theorem zaf.set {T : Tb} {μ : List Addr} {H : Hp} {d : D} {v : V} (hd : Rep T μ H d v) : ∀ {ds : List D} {vs : List V} (i : Nat), zaf T μ H ds vs -> zaf T μ H (ds.set i d) (vs.set i v)
  | [], vs, i, h => by rw [zaf] at h; subst h; simpa using zaf.nil
  | x :: ds, vs, 0, h => by
    rw [zaf] at h
    obtain ⟨w, r, rfl, h2, h3⟩ := h
    exact zaf.cons hd h3
  | x :: ds, vs, i + 1, h => by
    rw [zaf] at h
    obtain ⟨w, r, rfl, h2, h3⟩ := h
    exact zaf.cons h2 (zaf.set hd i h3)
theorem zaf.drop {T : Tb} {μ : List Addr} {H : Hp} : ∀ {ds : List D} {vs : List V} (n : Nat), zaf T μ H ds vs -> zaf T μ H (ds.drop n) (vs.drop n)
  | ds, vs, 0, h => by simpa using h
  | [], vs, n + 1, h => by rw [zaf] at h; subst h; simpa using zaf.nil
  | x :: ds, vs, n + 1, h => by
    rw [zaf] at h
    obtain ⟨w, r, rfl, h2, h3⟩ := h
    simpa using zaf.drop n h3
theorem zaf.take {T : Tb} {μ : List Addr} {H : Hp} : ∀ {ds : List D} {vs : List V} (n : Nat), zaf T μ H ds vs -> zaf T μ H (ds.take n) (vs.take n)
  | ds, vs, 0, h => by simpa using zaf.nil
  | [], vs, n + 1, h => by rw [zaf] at h; subst h; simpa using zaf.nil
  | x :: ds, vs, n + 1, h => by
    rw [zaf] at h
    obtain ⟨w, r, rfl, h2, h3⟩ := h
    exact zaf.cons h2 (zaf.take n h3)
def RepF (T : Tb) (μ : List Addr) (H : Hp) : List (Str × D) -> List (Str × V) -> Prop := Paired fun p q => p.1 = q.1 /\ Rep T μ H p.2 q.2
def RepK (T : Tb) (μ : List Addr) (H : Hp) : List (Key × D) -> List (Key × V) -> Prop := Paired fun p q => p.1 = q.1 /\ Rep T μ H p.2 q.2
def ObR (T : Tb) (μ : List Addr) (H : Hp) (a : Addr) : Ob -> Prop
  | .lst ds => ∃ vs, H a = some (.lst vs) /\ zaf T μ H ds vs
  | .dic kvs => ∃ vs, H a = some (.dK vs) /\ RepK T μ H kvs vs
  | .ins c fs => ∃ dx vs, H a = some (.ins (T.ca c) dx vs) /\ RepF T μ H fs vs
structure Rel (T : Tb) (μ : List Addr) (H : Hp) (σ : Sto) : Prop where
  len : μ.length = σ.length
  nd : μ.Nodup
  obs : ∀ (n : Nat) (o : Ob), σ[n]? = some o -> ∃ a, μ[n]? = some a /\ ObR T μ H a o
def ERep (T : Tb) (μ : List Addr) (H : Hp) (ρ : Ev) (st : St) : Prop := ρ.length = st.length /\ ∀ (i : Nat) (d : D), ρ[i]? = some (some d) -> ∃ v, st[i]? = some (some v) /\ Rep T μ H d v
theorem ERep.mono {T : Tb} {μ μ' : List Addr} {H H' : Hp} {ρ : Ev} {st : St} (e : Ext μ H μ' H') (h : ERep T μ H ρ st) : ERep T μ' H' ρ st :=
  ⟨h.1, fun i d q => let ⟨v, h1, h2⟩ := h.2 i d q; ⟨v, h1, Rep.mono e d v h2⟩⟩
theorem ERep.set {T : Tb} {μ : List Addr} {H : Hp} {ρ : Ev} {st : St} {d : D} {v : V} (h : ERep T μ H ρ st) (i : Nat) (r : Rep T μ H d v) : ERep T μ H (ρ.set i (some d)) (st.set i (some v)) := by
  refine ⟨by simpa using h.1, fun j x q => ?_⟩
  rw [List.getElem?_set] at q
  by_cases hj : i = j
  · subst hj
    rw [if_pos rfl] at q
    split at q
    · rename_i hl
      cases q
      exact ⟨v, by rw [List.getElem?_set, if_pos rfl, if_pos (by rw [<- h.1]; exact hl)], r⟩
    · cases q
  · rw [if_neg hj] at q
    obtain ⟨w, h1, h2⟩ := h.2 j x q
    exact ⟨w, by rw [List.getElem?_set, if_neg hj]; exact h1, h2⟩
structure Fly (P : Program) (w : World) (outer : List Env) (H : Hp) (s : Shared) (cls : Value) (H' : Hp) (e : Value) (s' : Shared) : Prop where
  ex : ∃ (ea : Addr) (a0 : Value) (B : Heap), e = .ref ea /\ Heap.FlyingW B outer ea cls a0 s'.heap /\ H' ea = none /\ s.heap.get? ea = none /\
    (∀ b o, H' b = some o -> ∃ ob, B.get? b = some ob) /\ (∀ b o, s.heap.get? b = some o -> H b = none -> b ∉ frs outer -> B.get? b = some o) /\ (∀ b o, s.heap.get? b = some o -> b ∉ frs outer -> ∃ o', B.get? b = some o')
  os : s'.os = s.os
  bare : AllBare s'.gens
  un : Un (frs outer) [] H H' s.heap s'.heap
  hok : HOk P w H' s'.heap
def CXE (P : Program) (w : World) : CXT := fun outer H s E e s' => ∃ cls H', Fly P w outer H s cls H' e s' /\ E cls none H'
structure Thr (X : Cx) (st : St) (cls : Value) (H' : Hp) : Prop where
  fly : ∀ (pins : List (Addr × Obj)) (H : Hp) (s : Shared) (e : Value) (s' : Shared), Inv X pins st H s -> Fly X.prog X.w X.stack H s cls H' e s' -> X.xe e s'
  made : ∀ (pins : List (Addr × Obj)) (s : Shared) (ea : Addr) (h' : Heap) (args : List Value), Inv X pins st H' s -> Heap.MadeExcOf s.heap h' ea cls args -> X.xe (.ref ea) { s with heap := h' }
abbrev XE (X : Cx) (st : St) : XK := fun cls _ H' => Thr X st cls H'
def zad {α γ : Type} (T : Tb) (E : XK) (R : List Addr -> Hp -> α -> γ -> Prop) (μ : List Addr) (H : Hp) (o : Out α) (Q : γ -> Hp -> Prop) : Prop := match o with
  | .ok a σ => ∀ μ' g H', Ext μ H μ' H' -> Rel T μ' H' σ -> R μ' H' a g -> Q g H'
  | .ex x σ => ∀ μ' H', Ext μ H μ' H' -> Rel T μ' H' σ -> E (T.cv x) none H'
  | .bad => False
theorem zad.mono {α γ : Type} {T : Tb} {E : XK} {R : List Addr -> Hp -> α -> γ -> Prop} {μ μ1 : List Addr} {H H1 : Hp} {o : Out α} {Q : γ -> Hp -> Prop} (e : Ext μ H μ1 H1) (h : zad T E R μ H o Q) : zad T E R μ1 H1 o Q := by
  cases o with
  | ok a σ => exact fun μ' g H' e' r q => h μ' g H' (e.trans e') r q
  | ex x σ => exact fun μ' H' e' r => h μ' H' (e.trans e') r
  | bad => exact h
theorem zad.imp {α γ : Type} {T : Tb} {E : XK} {R : List Addr -> Hp -> α -> γ -> Prop} {μ : List Addr} {H : Hp} {o : Out α} {Q Q' : γ -> Hp -> Prop} (h : zad T E R μ H o Q) (k : ∀ g H', Q g H' -> Q' g H') : zad T E R μ H o Q' := by
  cases o with
  | ok a σ => exact fun μ' g H' e' r q => k _ _ (h μ' g H' e' r q)
  | ex x σ => exact h
  | bad => exact h
theorem zad.bind {α β γ δ : Type} {T : Tb} {E : XK} {R : List Addr -> Hp -> α -> γ -> Prop} {R' : List Addr -> Hp -> β -> δ -> Prop} {μ : List Addr} {H : Hp} {m : M α} {k : α -> M β} {σ : Sto} {Q : δ -> Hp -> Prop} {Q1 : γ -> Hp -> Prop}
    (h : zad T E R' μ H (bnd m k σ) Q) (f : ∀ a σ1 μ1 g H1, m σ = .ok a σ1 -> Ext μ H μ1 H1 -> Rel T μ1 H1 σ1 -> R μ1 H1 a g -> zad T E R' μ1 H1 (k a σ1) Q -> Q1 g H1) : zad T E R μ H (m σ) Q1 := by
  unfold bnd at h
  cases e : m σ with
  | ok a σ1 =>
    rw [e] at h
    exact fun μ' g H' e' r q => f a σ1 μ' g H' e e' r q (h.mono e')
  | ex x σ1 => rw [e] at h; exact h
  | bad => rw [e] at h; exact h
theorem zad.here {T : Tb} {E : XK} {α γ : Type} {R : List Addr -> Hp -> α -> γ -> Prop} {μ : List Addr} {H : Hp} {d : α} {σ : Sto} {g : γ} {Q : γ -> Hp -> Prop} (h : zad T E R μ H (.ok d σ) Q) (r : Rel T μ H σ) (p : R μ H d g) : Q g H := h μ g H (Ext.refl _ _) r p
section
variable (T : Tb) (X : Cx)
def tF (f : Ev -> M D) : TE := fun st H Q => ∃ μ ρ σ, ERep T μ H ρ st /\ Rel T μ H σ /\ zad T (XE X st) (Rep T) μ H (f ρ σ) Q
def RBool : List Addr -> Hp -> Bool -> Bool -> Prop := fun _ _ a b => b = a
def tT (f : Ev -> M Bool) : TT := fun st H Q => ∃ μ ρ σ, ERep T μ H ρ st /\ Rel T μ H σ /\ zad T (XE X st) RBool μ H (f ρ σ) Q
def tL (f : Ev -> M (List D)) : TA := fun st H Q => ∃ μ ρ σ, ERep T μ H ρ st /\ Rel T μ H σ /\ zad T (XE X st) (zaf T) μ H (f ρ σ) Q
inductive Gl2 where
  | nx (st : St) | rt (v : V) | bk (st : St) | ct (st : St) | xc (st : St) (cls : Value)
def RFl (T : Tb) (μ : List Addr) (H : Hp) : Fl -> Gl2 -> Prop
  | .nx ρ, .nx st => ERep T μ H ρ st
  | .rt d, .rt v => Rep T μ H d v
  | .bk ρ, .bk st => ERep T μ H ρ st
  | .ct ρ, .ct st => ERep T μ H ρ st
  | .xc ρ x, .xc st cls => ERep T μ H ρ st /\ cls = T.cv x
  | _, _ => False
def EndQ (X : Cx) (D : Ends) : Gl2 -> Hp -> Prop
  | .nx st, H => D.nx st H
  | .rt v, H => D.rt v H
  | .bk st, H => D.bk st H
  | .ct st, H => D.ct st H
  | .xc st cls, H => Thr X st cls H
abbrev EN : XK := fun _ _ _ => False
def tS (g : Ev -> M Fl) : TS := fun D st H => ∃ μ ρ σ, ERep T μ H ρ st /\ Rel T μ H σ /\ zad T EN (RFl T) μ H (g ρ σ) (EndQ X D)
end
def xs {α : Type} (ρ : Ev) (m : M α) (k : α -> M Fl) : M Fl := fun σ => match m σ with
  | .ok a σ' => k a σ'
  | .ex x σ' => .ok (.xc ρ x) σ'
  | .bad => .bad
theorem zad.xs {α γ : Type} {T : Tb} {X : Cx} {D : Ends} {R : List Addr -> Hp -> α -> γ -> Prop} {μ : List Addr} {H : Hp} {ρ : Ev} {st : St} {m : M α} {k : α -> M Fl} {σ : Sto} {Q1 : γ -> Hp -> Prop} (hE : ERep T μ H ρ st)
    (h : zad T EN (RFl T) μ H (L4.xs ρ m k σ) (EndQ X D)) (f : ∀ a σ1 μ1 g H1, m σ = .ok a σ1 -> Ext μ H μ1 H1 -> Rel T μ1 H1 σ1 -> R μ1 H1 a g -> zad T EN (RFl T) μ1 H1 (k a σ1) (EndQ X D) -> Q1 g H1) : zad T (XE X st) R μ H (m σ) Q1 := by
  unfold L4.xs at h
  cases e : m σ with
  | ok a σ1 =>
    rw [e] at h
    exact fun μ' g H' e' r q => f a σ1 μ' g H' e e' r q (h.mono e')
  | ex x σ1 =>
    rw [e] at h
    intro μ' H' e' r
    exact h μ' (.xc st (T.cv x)) H' e' r ⟨hE.mono e', rfl⟩
  | bad => rw [e] at h; exact h
abbrev FE (T : Tb) (X : Cx) (e : Expr) (f : Ev -> M D) : Prop := PE X e (tF T X f)
abbrev FT (T : Tb) (X : Cx) (e : Expr) (f : Ev -> M Bool) : Prop := PT X e (tT T X f)
abbrev FW (T : Tb) (X : Cx) (e : Expr) (f : Ev -> M Bool) : Prop := PW X e (tT T X f)
abbrev FA (T : Tb) (X : Cx) (es : List Expr) (f : Ev -> M (List D)) : Prop := PA X es (tL T X f)
abbrev FS (T : Tb) (X : Cx) (st : Stmt) (g : Ev -> M Fl) : Prop := PS X st (tS T X g)
abbrev FSs (T : Tb) (X : Cx) (st : List Stmt) (g : Ev -> M Fl) : Prop := PSs X st (tS T X g)
end L4
namespace L4
open PySem PySem.Spec PyProof.Rows L2
def cap : Nat := 1000
theorem cap_le {n : Nat} (h : n <= cap) : n <= sizeLine := Nat.le_of_lt (small1000 h)
theorem cap_lt {n : Nat} (h : n < cap) : n < sizeLine := small1000 (Nat.le_of_lt h)
theorem nodup_at {α : Type} {l : List α} (h : l.Nodup) {i j : Nat} {a : α} (hi : l[i]? = some a) (hj : l[j]? = some a) : i = j := by
  obtain ⟨q1, q2⟩ := List.getElem?_eq_some_iff.mp hi
  obtain ⟨q3, q4⟩ := List.getElem?_eq_some_iff.mp hj
  have hp := List.pairwise_iff_getElem.mp h
  rcases Nat.lt_trichotomy i j with z | z | z
  · exact absurd (q2.trans q4.symm) (hp i j q1 q3 z)
  · exact z
  · exact absurd (q4.trans q2.symm) (hp j i q3 q1 z)
section
variable {T : Tb} {μ μ' : List Addr} {H H' : Hp} {σ : Sto}
theorem paired_mono {α : Type} (e : Ext μ H μ' H') {xs : List (α × D)} {ys : List (α × V)} (h : Paired (fun (p : α × D) (q : α × V) => p.1 = q.1 /\ Rep T μ H p.2 q.2) xs ys) :
    Paired (fun (p : α × D) (q : α × V) => p.1 = q.1 /\ Rep T μ' H' p.2 q.2) xs ys := L2.Paired.mapP h fun p q z => ⟨z.1, Rep.mono e _ _ z.2⟩
theorem ObR.mono (e : Ext μ H μ' H') {a : Addr} (ha : H' a = H a) : ∀ {o : Ob}, ObR T μ H a o -> ObR T μ' H' a o
  | .lst ds, ⟨vs, h, r⟩ => ⟨vs, ha.trans h, zaf.mono e _ _ r⟩
  | .dic kvs, ⟨vs, h, r⟩ => ⟨vs, ha.trans h, paired_mono e r⟩
  | .ins c fs, ⟨dx, vs, h, r⟩ => ⟨dx, vs, ha.trans h, paired_mono e r⟩
theorem ObR.some {a : Addr} : ∀ {o : Ob}, ObR T μ H a o -> ∃ u, H a = Option.some u /\ (∀ xs, u ≠ .tup xs) /\ (∀ ob w, u ≠ .frz ob w)
  | .lst ds, ⟨vs, h, r⟩ => ⟨_, h, (fun _ z => by cases z), (fun _ _ z => by cases z)⟩
  | .dic kvs, ⟨vs, h, r⟩ => ⟨_, h, (fun _ z => by cases z), (fun _ _ z => by cases z)⟩
  | .ins c fs, ⟨dx, vs, h, r⟩ => ⟨_, h, (fun _ z => by cases z), (fun _ _ z => by cases z)⟩
theorem Rel.keep (r : Rel T μ H σ) (e : Ext μ H μ H') (k : ∀ a ∈ μ, H' a = H a) : Rel T μ H' σ :=
  ⟨r.len, r.nd, fun n o h => let ⟨a, h1, h2⟩ := r.obs n o h; ⟨a, h1, h2.mono e (k a (List.mem_of_getElem? h1))⟩⟩
theorem Rel.mem (r : Rel T μ H σ) {a : Addr} (h : a ∈ μ) : ∃ u, H a = some u /\ (∀ xs, u ≠ .tup xs) /\ (∀ ob w, u ≠ .frz ob w) := by
  obtain ⟨n, hn⟩ := List.getElem?_of_mem h
  have hl : n < σ.length := by rw [<- r.len]; exact (List.getElem?_eq_some_iff.mp hn).1
  obtain ⟨a', h1, h2⟩ := r.obs n σ[n] (by simp [hl])
  rw [hn] at h1; cases h1
  exact h2.some
theorem ext_new {p : Addr} {o : HO} (hp : H p = none) : Ext μ H μ (upd H p o) :=
  ⟨⟨[], by simp⟩, fun q xs h => by rw [upd_ne (zcc h hp)]; exact h, fun q ob u h => by rw [upd_ne (zcc h hp)]; exact h, fun q ob h n => ⟨by rw [upd_ne (zcc h hp)]; exact h, n⟩⟩
theorem Rel.fresh (r : Rel T μ H σ) {p : Addr} {o : HO} (hp : H p = none) : Rel T μ (upd H p o) σ :=
  r.keep (ext_new hp) fun a ha => by obtain ⟨u, h, _⟩ := r.mem ha; rw [upd_ne (zcc h hp)]
theorem ext_push {p : Addr} {o : HO} (hp : H p = none) : Ext μ H (μ ++ [p]) (upd H p o) :=
  ⟨⟨[p], rfl⟩, (ext_new (μ := μ) hp).tup, (ext_new (μ := μ) hp).frz, fun q ob h n => ⟨((ext_new (μ := μ) hp).keep q ob h n).1, fun z => (List.mem_append.mp z).elim n fun z => zcc h hp (by simpa using z)⟩⟩
theorem Rel.push (r : Rel T μ H σ) {p : Addr} {o : HO} {ob : Ob} (hp : H p = none) (ho : ObR T (μ ++ [p]) (upd H p o) p ob) : Rel T (μ ++ [p]) (upd H p o) (σ ++ [ob]) := by
  refine ⟨by simp [r.len], ?_, fun n x h => ?_⟩
  · rw [List.nodup_append]
    refine ⟨r.nd, by simp, fun a ha b hb e => ?_⟩
    have eb : b = p := by simpa using hb
    subst eb; subst e
    obtain ⟨u, h, _⟩ := r.mem ha
    rw [hp] at h; cases h
  · by_cases hn : n < σ.length
    · rw [List.getElem?_append_left hn] at h
      obtain ⟨a, h1, h2⟩ := r.obs n x h
      obtain ⟨u, hu, _⟩ := h2.some
      exact ⟨a, by rw [List.getElem?_append_left (by rw [r.len]; exact hn)]; exact h1, h2.mono (ext_push hp) (upd_ne (zcc hu hp))⟩
    · rw [List.getElem?_append_right (by omega)] at h
      have e0 : n - σ.length = 0 := by
        have := (List.getElem?_eq_some_iff.mp h).1
        simp at this; omega
      rw [e0] at h
      simp at h; subst h
      have en : n = μ.length := by rw [r.len]; omega
      subst en
      exact ⟨p, by simp, ho⟩
theorem rep_push {p : Addr} {o : HO} (r : Rel T μ H σ) : Rep T (μ ++ [p]) (upd H p o) (.ref σ.length) (.ref p) := by
  rw [Rep]; exact ⟨p, rfl, by rw [<- r.len]; simp⟩
theorem ext_write {a : Addr} {u o : HO} (hm : a ∈ μ) (ha : H a = some u) (h1 : ∀ xs, u ≠ .tup xs) (h2 : ∀ ob w, u ≠ .frz ob w) : Ext μ H μ (upd H a o) :=
  ⟨⟨[], by simp⟩, fun q xs h => by rw [upd_ne (ne_of h ha (fun z => h1 xs z.symm))]; exact h, fun q ob w h => by rw [upd_ne (ne_of h ha (fun z => h2 ob w z.symm))]; exact h, fun q ob h n => ⟨by rw [upd_ne (fun z => n (by rw [z]; exact hm))]; exact h, n⟩⟩
theorem Rel.write (r : Rel T μ H σ) {n : Nat} {a : Addr} {o : HO} {ob : Ob} (hn : μ[n]? = some a) (ho : ObR T μ (upd H a o) a ob) : Ext μ H μ (upd H a o) /\ Rel T μ (upd H a o) (σ.set n ob) := by
  obtain ⟨u, hu, h1, h2⟩ := r.mem (List.mem_of_getElem? hn)
  have e : Ext μ H μ (upd H a o) := ext_write (List.mem_of_getElem? hn) hu h1 h2
  refine ⟨e, by simp [r.len], r.nd, fun m x h => ?_⟩
  rw [List.getElem?_set] at h
  by_cases hm : n = m
  · subst hm
    rw [if_pos rfl] at h
    split at h
    · cases h
      exact ⟨a, hn, ho⟩
    · cases h
  · rw [if_neg hm] at h
    obtain ⟨b, h3, h4⟩ := r.obs m x h
    refine ⟨b, h3, h4.mono e (upd_ne fun z => hm ?_)⟩
    subst z
    exact nodup_at r.nd hn h3
theorem Rel.at (r : Rel T μ H σ) {n : Nat} {v : V} {o : Ob} (h : Rep T μ H (.ref n) v) (e : σ[n]? = some o) : ∃ a, v = .ref a /\ μ[n]? = some a /\ ObR T μ H a o := by
  rw [Rep] at h
  obtain ⟨a, rfl, ha⟩ := h
  obtain ⟨a', h1, h2⟩ := r.obs n o e
  rw [ha] at h1; cases h1
  exact ⟨a, rfl, ha, h2⟩
end
def zar (i : Nat) : Ev -> M D := fun ρ σ => match ρ[i]? with
  | some (some d) => .ok d σ
  | _ => .bad
def eC (d : D) : Ev -> M D := fun _ => ret d
def binK (o : D -> D -> M D) (m : M D) (x : D) : M D := bnd m (o x)
def zap (o : D -> D -> M D) (a b : Ev -> M D) : Ev -> M D := fun ρ => bnd (a ρ) (binK o (b ρ))
def eUn (o : D -> M D) (a : Ev -> M D) : Ev -> M D := fun ρ => bnd (a ρ) o
def tst (d : D) : M Bool := match d with
  | .bl b => ret b
  | _ => bad
def ifK {α : Type} (p q : M α) (c : Bool) : M α := if c = true then p else q
def notK (c : Bool) : M Bool := ret (!c)
def testK {α : Type} (k : Bool -> M α) (d : D) : M α := bnd (tst d) k
def eT (f : Ev -> M D) : Ev -> M Bool := fun ρ => bnd (f ρ) tst
def bAnd (a b : Ev -> M Bool) : Ev -> M Bool := fun ρ => bnd (a ρ) (ifK (b ρ) (ret false))
def bOr (a b : Ev -> M Bool) : Ev -> M Bool := fun ρ => bnd (a ρ) (ifK (ret true) (b ρ))
def bNot (a : Ev -> M Bool) : Ev -> M Bool := fun ρ => bnd (a ρ) notK
def eAnd (a b : Ev -> M D) : Ev -> M D := fun ρ => bnd (a ρ) (testK (ifK (b ρ) (ret (.bl false))))
def eOr (a b : Ev -> M D) : Ev -> M D := fun ρ => bnd (a ρ) (testK (ifK (ret (.bl true)) (b ρ)))
def nboxK (c : Bool) : M D := ret (.bl (!c))
def eNot (a : Ev -> M D) : Ev -> M D := fun ρ => bnd (a ρ) (testK nboxK)
def eIf (t : Ev -> M Bool) (a b : Ev -> M D) : Ev -> M D := fun ρ => bnd (t ρ) (ifK (a ρ) (b ρ))
def zai : Ev -> M (List D) := fun _ => ret []
def consK (x : D) (xs : List D) : M (List D) := ret (x :: xs)
def aConsK (m : M (List D)) (x : D) : M (List D) := bnd m (consK x)
def zah (e : Ev -> M D) (r : Ev -> M (List D)) : Ev -> M (List D) := fun ρ => bnd (e ρ) (aConsK (r ρ))
def tupK (ds : List D) : M D := if ds.length <= cap then ret (.tup ds) else bad
def eTup (a : Ev -> M (List D)) : Ev -> M D := fun ρ => bnd (a ρ) tupK
def mkLst (ds : List D) : M D := fun σ => .ok (.ref σ.length) (σ ++ [.lst ds])
def lstK (ds : List D) : M D := if ds.length <= cap then mkLst ds else bad
def eLst (a : Ev -> M (List D)) : Ev -> M D := fun ρ => bnd (a ρ) lstK
def lvK (ds : List D) : M D := if ds.length <= cap then ret (.lst ds) else bad
def eLv (a : Ev -> M (List D)) : Ev -> M D := fun ρ => bnd (a ρ) lvK
def SndOp (T : Tb) (r : R2) (o : D -> D -> M D) : Prop := ∀ (E : XK) μ H σ x y v u Q, Rel T μ H σ -> Rep T μ H x v -> Rep T μ H y u -> zad T E (Rep T) μ H (o x y σ) Q -> r v u H Q
def SndUn (T : Tb) (r : V -> Hp -> VK -> Prop) (o : D -> M D) : Prop := ∀ (E : XK) μ H σ x v Q, Rel T μ H σ -> Rep T μ H x v -> zad T E (Rep T) μ H (o x σ) Q -> r v H Q
def SndCall (T : Tb) (r : List V -> Hp -> VK -> Prop) (o : List D -> M D) : Prop := ∀ (E : XK) μ H σ xs vs Q, Rel T μ H σ -> zaf T μ H xs vs -> zad T E (Rep T) μ H (o xs σ) Q -> r vs H Q
section
variable {T : Tb} {X : Cx} {a b c : Expr} {fa fb : Ev -> M D} {ta tb : Ev -> M Bool} {pos : Pos}
theorem zbf (i : Nat) {x : Str} (hN : X.N[i]? = some x := by rfl) (hv : Vis X.env.scope x := by first | exact Or.inl rfl | exact Or.inr (Or.inl rfl) | exact Or.inr (Or.inr rfl)) (hd : (x == ("__debug__" : Str)) = false := by decide)
    (hcd : (x == ("__classdict__" : Str)) = false := by decide) : FE T X (.Name x pos) (zar i) := by
  intro pins s st H Q I h
  obtain ⟨μ, ρ, σ, he, hr, hp⟩ := h
  refine pe_var hN hv hd hcd pins s st H Q I ?_
  unfold zar at hp
  cases e : ρ[i]? with
  | none => rw [e] at hp; exact hp.elim
  | some o =>
    cases o with
    | none => rw [e] at hp; exact hp.elim
    | some d =>
      rw [e] at hp
      obtain ⟨v, h1, h2⟩ := he.2 i d e
      exact ⟨v, h1, hp.here hr h2⟩
theorem fe_const {e : Expr} {v : V} {d : D} (h : PE X e (tC v)) (r : ∀ μ H, Rep T μ H d v) : FE T X e (eC d) := by
  intro pins s st H Q I hq
  obtain ⟨μ, ρ, σ, he, hr, hp⟩ := hq
  exact h pins s st H Q I (zad.here hp hr (r _ _))
theorem zaz {i : Int} {j} : FE T X (.Constant (.int i) j pos) (eC (.int i)) := fe_const pe_int fun _ _ => by rw [Rep]
theorem fe_bl {i : Bool} {j} : FE T X (.Constant (.bool i) j pos) (eC (.bl i)) := fe_const pe_bl fun _ _ => by rw [Rep]
theorem fe_non {j} : FE T X (.Constant .none j pos) (eC .non) := fe_const pe_non fun _ _ => by rw [Rep]
theorem zbd {i : Str} {j} : FE T X (.Constant (.str i) j pos) (eC (.str i)) := fe_const pe_str fun _ _ => by rw [Rep]
theorem zay {x : Str} {u : Value} {i : Int} (hg : Gl X x) (hm : X.mg x = some u) (r : zae (.int i) u) (hd : (x == ("__debug__" : Str)) = false := by decide) : FE T X (.Name x pos) (eC (.int i)) := fe_const (pe_glob hg hm r hd) fun _ _ => by rw [Rep]
theorem two {r : R2} {o : D -> D -> M D} (hs : SndOp T r o) {st : St} {H : Hp} {Q : VK} (h : tF T X (zap o fa fb) st H Q) : tOp r (tF T X fa) (tF T X fb) st H Q := by
  obtain ⟨μ, ρ, σ, he, hr, hp⟩ := h
  exact ⟨μ, ρ, σ, he, hr, hp.bind fun x σ1 μ1 v H1 _ e1 r1 p1 q1 => ⟨μ1, ρ, σ1, he.mono e1, r1, q1.bind fun y σ2 μ2 u H2 _ e2 r2 p2 q2 => hs _ μ2 H2 σ2 x y v u Q r2 (Rep.mono e2 _ _ p1) p2 q2⟩⟩
theorem zbc {op : Operator} {r : R2} {o : D -> D -> M D} (ho : OpR X (binaryOp op) r) (hs : SndOp T r o) (ha : FE T X a fa) (hb : FE T X b fb) : FE T X (.BinOp a op b pos) (zap o fa fb) :=
  fun pins s st H Q I h => pe_op ho ha hb pins s st H Q I (two hs h)
theorem fe_cmp {op : CmpOp} {r : R2} {o : D -> D -> M D} (ho : OpR X (compareOp op) r) (hs : SndOp T r o) (ha : FE T X a fa) (hb : FE T X b fb) (hm : behindInMarks op b = false) : FE T X (.Compare a [op] [b] pos) (zap o fa fb) :=
  fun pins s st H Q I h => pe_cmpR ho ha hb hm pins s st H Q I (two hs h)
theorem zba {r : R2} {o : D -> D -> M D} (ho : IxR X r) (hs : SndOp T r o) (ha : FE T X a fa) (hb : FE T X b fb) (hp : PlainIx b) : FE T X (.Subscript a b pos) (zap o fa fb) :=
  fun pins s st H Q I h => pe_ix ho ha hb hp pins s st H Q I (two hs h)
theorem fe_un {op : UnaryOp} {r : V -> Hp -> VK -> Prop} {o : D -> M D} (ho : UnR X (unaryOp op) r) (hs : SndUn T r o) (ha : FE T X a fa) : FE T X (.UnaryOp op a pos) (eUn o fa) := by
  intro pins s st H Q I h
  refine pe_un ho ha pins s st H Q I ?_
  obtain ⟨μ, ρ, σ, he, hr, hp⟩ := h
  exact ⟨μ, ρ, σ, he, hr, hp.bind fun x σ1 μ1 v H1 _ e1 r1 p1 q1 => hs _ μ1 H1 σ1 x v Q r1 p1 q1⟩
theorem tst_bl {E : XK} {d : D} {σ : Sto} {μ : List Addr} {H : Hp} {v : V} {β δ : Type} {R' : List Addr -> Hp -> β -> δ -> Prop} {k : Bool -> M β} {Q : δ -> Hp -> Prop} (r : Rep T μ H d v) (h : zad T E R' μ H (bnd (tst d) k σ) Q) : ∃ c, d = .bl c /\ v = .bl c /\ zad T E R' μ H (k c σ) Q := by
  cases d with
  | bl c => rw [Rep] at r; exact ⟨c, rfl, r, h⟩
  | _ => exact h.elim
theorem tst_bl1 {E : XK} {d : D} {σ : Sto} {μ : List Addr} {H : Hp} {v : V} {Q : Bool -> Hp -> Prop} (r : Rep T μ H d v) (h : zad T E RBool μ H (tst d σ) Q) : ∃ c, v = .bl c /\ zad T E RBool μ H (.ok c σ) Q := by
  cases d with
  | bl c => rw [Rep] at r; exact ⟨c, r, h⟩
  | _ => exact h.elim
theorem zbr {op : CmpOp} {r : R2} {o : D -> D -> M D} (ho : OpR X (compareOp op) r) (hs : SndOp T r o) (ha : FE T X a fa) (hb : FE T X b fb) (hm : behindInMarks op b = false) : FT T X (.Compare a [op] [b] pos) (eT (zap o fa fb)) := by
  intro pins s st H Q I h
  refine pt_cmpR ho ha hb hm pins s st H Q I ?_
  refine two (o := o) hs ?_
  obtain ⟨μ, ρ, σ, he, hr, hp⟩ := h
  refine ⟨μ, ρ, σ, he, hr, hp.bind fun d σ1 μ1 v H1 _ e1 r1 p1 q1 => ?_⟩
  obtain ⟨k, ev, q⟩ := tst_bl1 p1 q1
  exact ⟨k, ev, q.here r1 rfl⟩
theorem zbs {e : Expr} {f : Ev -> M D} (h : FE T X e f) (he : ∀ whole, isTrue e X.env whole = (do let v <- whole; standAt e.pos; holding [v] (truthy v)) := by intro _; rfl) : FT T X e (eT f) := by
  intro pins s st H Q I hw
  refine pt_val h he pins s st H Q I ?_
  obtain ⟨μ, ρ, σ, hE, hr, hp⟩ := hw
  refine ⟨μ, ρ, σ, hE, hr, hp.bind fun d σ1 μ1 v H1 _ e1 r1 p1 q1 => ?_⟩
  obtain ⟨k, ev, q⟩ := tst_bl1 p1 q1
  exact ⟨k, ev, q.here r1 rfl⟩
theorem ft_not (h : FT T X a ta) : FT T X (.UnaryOp .Not a pos) (bNot ta) := by
  intro pins s st H Q I hw
  refine pt_not h pins s st H Q I ?_
  obtain ⟨μ, ρ, σ, hE, hr, hp⟩ := hw
  exact ⟨μ, ρ, σ, hE, hr, hp.bind fun c σ1 μ1 v H1 _ e1 r1 p1 q1 => by cases p1; exact q1.here r1 rfl⟩
variable {rest : List Expr}
theorem fw_and1 (h : FT T X a ta) : FW T X (.BoolOp .And [a] pos) ta := pw_and1 h
theorem fw_or1 (h : FT T X a ta) : FW T X (.BoolOp .Or [a] pos) ta := pw_or1 h
theorem fw_and (h : FT T X a ta) (hb : FW T X (.BoolOp .And (b :: rest) pos) tb) : FW T X (.BoolOp .And (a :: b :: rest) pos) (bAnd ta tb) := by
  intro wh pins s st H Q I hw
  refine pw_and h hb wh pins s st H Q I ?_
  obtain ⟨μ, ρ, σ, hE, hr, hp⟩ := hw
  refine ⟨μ, ρ, σ, hE, hr, hp.bind fun c σ1 μ1 v H1 _ e1 r1 p1 q1 => ?_⟩
  cases p1
  cases c with
  | true => unfold ifK at q1; rw [if_pos rfl] at q1 ⊢; exact ⟨μ1, ρ, σ1, hE.mono e1, r1, q1⟩
  | false => unfold ifK at q1; rw [if_neg Bool.false_ne_true] at q1 ⊢; exact q1.here r1 rfl
theorem fw_or (h : FT T X a ta) (hb : FW T X (.BoolOp .Or (b :: rest) pos) tb) : FW T X (.BoolOp .Or (a :: b :: rest) pos) (bOr ta tb) := by
  intro wh pins s st H Q I hw
  refine pw_or h hb wh pins s st H Q I ?_
  obtain ⟨μ, ρ, σ, hE, hr, hp⟩ := hw
  refine ⟨μ, ρ, σ, hE, hr, hp.bind fun c σ1 μ1 v H1 _ e1 r1 p1 q1 => ?_⟩
  cases p1
  cases c with
  | true => unfold ifK at q1; rw [if_pos rfl] at q1 ⊢; exact q1.here r1 rfl
  | false => unfold ifK at q1; rw [if_neg Bool.false_ne_true] at q1 ⊢; exact ⟨μ1, ρ, σ1, hE.mono e1, r1, q1⟩
theorem fe_one {op} (h : FE T X a fa) : FE T X (.BoolOp op [a] pos) fa := pe_one h
theorem zau (h : FE T X a fa) (hb : FE T X (.BoolOp .And (b :: rest) pos) fb) : FE T X (.BoolOp .And (a :: b :: rest) pos) (eAnd fa fb) := by
  intro pins s st H Q I hw
  refine pe_and h hb pins s st H Q I ?_
  obtain ⟨μ, ρ, σ, hE, hr, hp⟩ := hw
  refine ⟨μ, ρ, σ, hE, hr, hp.bind fun d σ1 μ1 v H1 _ e1 r1 p1 q1 => ?_⟩
  obtain ⟨c, rfl, ev, q⟩ := tst_bl p1 q1
  refine ⟨c, ev, ?_⟩
  cases c with
  | true => unfold ifK at q; rw [if_pos rfl] at q ⊢; exact ⟨μ1, ρ, σ1, hE.mono e1, r1, q⟩
  | false => unfold ifK at q; rw [if_neg Bool.false_ne_true] at q ⊢; exact zad.here q r1 (by rw [Rep])
theorem fe_or (h : FE T X a fa) (hb : FE T X (.BoolOp .Or (b :: rest) pos) fb) : FE T X (.BoolOp .Or (a :: b :: rest) pos) (eOr fa fb) := by
  intro pins s st H Q I hw
  refine pe_or h hb pins s st H Q I ?_
  obtain ⟨μ, ρ, σ, hE, hr, hp⟩ := hw
  refine ⟨μ, ρ, σ, hE, hr, hp.bind fun d σ1 μ1 v H1 _ e1 r1 p1 q1 => ?_⟩
  obtain ⟨c, rfl, ev, q⟩ := tst_bl p1 q1
  refine ⟨c, ev, ?_⟩
  cases c with
  | true => unfold ifK at q; rw [if_pos rfl] at q ⊢; exact zad.here q r1 (by rw [Rep])
  | false => unfold ifK at q; rw [if_neg Bool.false_ne_true] at q ⊢; exact ⟨μ1, ρ, σ1, hE.mono e1, r1, q⟩
theorem fe_not (h : FE T X a fa) : FE T X (.UnaryOp .Not a pos) (eNot fa) := by
  intro pins s st H Q I hw
  refine pe_not h pins s st H Q I ?_
  obtain ⟨μ, ρ, σ, hE, hr, hp⟩ := hw
  refine ⟨μ, ρ, σ, hE, hr, hp.bind fun d σ1 μ1 v H1 _ e1 r1 p1 q1 => ?_⟩
  obtain ⟨c, rfl, ev, q⟩ := tst_bl p1 q1
  exact ⟨c, ev, zad.here q r1 (by rw [Rep])⟩
theorem fe_ifExp (hc : FT T X c ta) (ha : FE T X a fa) (hb : FE T X b fb) : FE T X (.IfExp c a b pos) (eIf ta fa fb) := by
  intro pins s st H Q I hw
  refine pe_ifExp hc ha hb pins s st H Q I ?_
  obtain ⟨μ, ρ, σ, hE, hr, hp⟩ := hw
  refine ⟨μ, ρ, σ, hE, hr, hp.bind fun d σ1 μ1 v H1 _ e1 r1 p1 q1 => ?_⟩
  cases p1
  cases d with
  | true => unfold ifK at q1; rw [if_pos rfl] at q1 ⊢; exact ⟨μ1, ρ, σ1, hE.mono e1, r1, q1⟩
  | false => unfold ifK at q1; rw [if_neg Bool.false_ne_true] at q1 ⊢; exact ⟨μ1, ρ, σ1, hE.mono e1, r1, q1⟩
variable {e : Expr} {es : List Expr} {fe : Ev -> M D} {fs : Ev -> M (List D)}
theorem zat : FA T X [] zai := by
  intro pos pins s st H Q I hw
  refine pa_nil pos pins s st H Q I ?_
  obtain ⟨μ, ρ, σ, hE, hr, hp⟩ := hw
  exact zad.here hp hr zaf.nil
theorem zas (ha : FE T X e fe) (hr : FA T X es fs) (hs : starEach (e :: es) X.env = (false, eval e X.env) :: starEach es X.env := by rfl) : FA T X (e :: es) (zah fe fs) := by
  intro pos pins s st H Q I hw
  refine pa_cons ha hr hs pos pins s st H Q I ?_
  obtain ⟨μ, ρ, σ, hE, hr, hp⟩ := hw
  exact ⟨μ, ρ, σ, hE, hr, hp.bind fun d σ1 μ1 v H1 _ e1 r1 p1 q1 => ⟨μ1, ρ, σ1, hE.mono e1, r1, q1.bind fun ds σ2 μ2 vs H2 _ e2 r2 p2 q2 => zad.here q2 r2 (zaf.cons (Rep.mono e2 _ _ p1) p2)⟩⟩
theorem new_tup {E : XK} {μ : List Addr} {H : Hp} {σ : Sto} {ds : List D} {vs : List V} {Q : VK} {p : Addr} (h : zad T E (Rep T) μ H (.ok (.tup ds) σ) Q) (r : Rel T μ H σ) (q : zaf T μ H ds vs) (hp : H p = none) : Q (.ref p) (upd H p (.tup vs)) :=
  h μ (.ref p) _ (ext_new hp) (r.fresh hp) (by rw [Rep]; exact ⟨p, vs, rfl, upd_same, zaf.mono (ext_new hp) _ _ q⟩)
theorem new_lst {E : XK} {μ : List Addr} {H : Hp} {σ : Sto} {ds : List D} {vs : List V} {Q : VK} {p : Addr} (h : zad T E (Rep T) μ H (mkLst ds σ) Q) (r : Rel T μ H σ) (q : zaf T μ H ds vs) (hp : H p = none) : Q (.ref p) (upd H p (.lst vs)) :=
  h (μ ++ [p]) (.ref p) _ (ext_push hp) (r.push hp ⟨vs, upd_same, zaf.mono (ext_push hp) _ _ q⟩) (rep_push r)
theorem zbe {x1} (h : FA T X es fs) : FE T X (.Tuple es x1 pos) (eTup fs) := by
  intro pins s st H Q I hw
  refine pe_tup h pins s st H Q I ?_
  obtain ⟨μ, ρ, σ, hE, hr, hp⟩ := hw
  refine ⟨μ, ρ, σ, hE, hr, hp.bind fun ds σ1 μ1 vs H1 _ e1 r1 p1 q1 => ?_⟩
  unfold tupK at q1
  by_cases hl : ds.length <= cap
  · rw [if_pos hl] at q1
    exact ⟨by rw [<- p1.length]; exact cap_le hl, fun p hp => new_tup q1 r1 p1 hp⟩
  · rw [if_neg hl] at q1; exact q1.elim
theorem fe_lst (h : FA T X es fs) : FE T X (.List es pos) (eLst fs) := by
  intro pins s st H Q I hw
  refine pe_lst h pins s st H Q I ?_
  obtain ⟨μ, ρ, σ, hE, hr, hp⟩ := hw
  refine ⟨μ, ρ, σ, hE, hr, hp.bind fun ds σ1 μ1 vs H1 _ e1 r1 p1 q1 => ?_⟩
  unfold lstK at q1
  by_cases hl : ds.length <= cap
  · rw [if_pos hl] at q1
    exact ⟨by rw [<- p1.length]; exact cap_le hl, fun p hp => new_lst q1 r1 p1 hp⟩
  · rw [if_neg hl] at q1; exact q1.elim
theorem new_lv {E : XK} {μ : List Addr} {H : Hp} {σ : Sto} {ds : List D} {vs : List V} {Q : VK} {p : Addr} (h : zad T E (Rep T) μ H (.ok (.lst ds) σ) Q) (r : Rel T μ H σ) (q : zaf T μ H ds vs) (hp : H p = none) : Q (.ref p) (upd H p (.lst vs)) :=
  h μ (.ref p) _ (ext_new hp) (r.fresh hp) (by rw [Rep]; exact ⟨p, vs, rfl, fun hm => (by obtain ⟨u, hu, _⟩ := r.mem hm; rw [hp] at hu; cases hu), upd_same, zaf.mono (ext_new hp) _ _ q⟩)
theorem fe_lv (h : FA T X es fs) : FE T X (.List es pos) (eLv fs) := by
  intro pins s st H Q I hw
  refine pe_lst h pins s st H Q I ?_
  obtain ⟨μ, ρ, σ, hE, hr, hp⟩ := hw
  refine ⟨μ, ρ, σ, hE, hr, hp.bind fun ds σ1 μ1 vs H1 _ e1 r1 p1 q1 => ?_⟩
  unfold lvK at q1
  by_cases hl : ds.length <= cap
  · rw [if_pos hl] at q1
    exact ⟨by rw [<- p1.length]; exact cap_le hl, fun p hp => new_lv q1 r1 p1 hp⟩
  · rw [if_neg hl] at q1; exact q1.elim
end
end L4
namespace L4
open PySem PySem.Spec PyProof.Rows L2
def oI (g : Int -> Int -> Int) : D -> D -> M D
  | .int i, .int j => ret (.int (g i j))
  | _, _ => bad
def oB (g : Int -> Int -> Bool) : D -> D -> M D
  | .int i, .int j => ret (.bl (g i j))
  | _, _ => bad
def oIC (C : Int -> Int -> Bool) (g : Int -> Int -> Int) : D -> D -> M D
  | .int i, .int j => if C i j = true then ret (.int (g i j)) else bad
  | _, _ => bad
noncomputable def cMul (i j : Int) : Bool := hide ((decide (-(2 ^ 64) < i) && decide (i < 2 ^ 64)) || (decide (-(2 ^ 64) < j) && decide (j < 2 ^ 64)))
noncomputable def cDiv (_ j : Int) : Bool := hide (decide (0 < j) && decide (j < 1073741824))
noncomputable def cMod (_ j : Int) : Bool := hide (decide (0 < j))
noncomputable def cPow (i j : Int) : Bool := hide (decide (0 <= j) && decide (j <= 1000000) && decide (i.natAbs < 2 ^ 64))
noncomputable def cShr (_ j : Int) : Bool := hide (decide (0 <= j))
abbrev oSub := oI (fun i j => i - j)
noncomputable abbrev oMul := oIC cMul (fun i j => i * j)
noncomputable abbrev oDiv := oIC cDiv (fun i j => i / j)
noncomputable abbrev oMod := oIC cMod (fun i j => i % j)
noncomputable abbrev oPow := oIC cPow (fun i j => i ^ j.toNat)
noncomputable abbrev oShr := oIC cShr (fun i j => i / 2 ^ j.toNat)
abbrev oBand := oI (fun i j => Builtin.bitAnd i j)
abbrev oLt := oB (fun i j => decide (i < j))
abbrev oLe := oB (fun i j => decide (i <= j))
abbrev oGt := oB (fun i j => decide (j < i))
abbrev oGe := oB (fun i j => decide (j <= i))
def oNeg : D -> M D
  | .int i => ret (.int (-i))
  | _ => bad
def rD (T : Tb) (o : D -> D -> M D) : R2 := fun v u H Q => ∃ (E : XK) (μ : List Addr) (σ : Sto) (x y : D), Rel T μ H σ /\ Rep T μ H x v /\ Rep T μ H y u /\ zad T E (Rep T) μ H (o x y σ) Q
theorem sndD {T : Tb} {o : D -> D -> M D} : SndOp T (rD T o) o := fun E μ H σ x y v u Q r p q h => ⟨E, μ, σ, x, y, r, p, q, h⟩
section
variable {T : Tb} {X : Cx}
theorem zbv {μ : List Addr} {H : Hp} {i : Int} {v : V} (h : Rep T μ H (.int i) v) : v = .int i := by simpa [Rep] using h
theorem snd_I {g : Int -> Int -> Int} : SndOp T (rI0 fun i j => .int (g i j)) (oI g) := by
  intro E μ H σ x y v u Q r p q h
  cases x with
  | int i =>
    cases y with
    | int j => exact ⟨i, j, zbv p, zbv q, zad.here h r (by rw [Rep])⟩
    | _ => exact h.elim
  | _ => exact h.elim
theorem snd_B {g : Int -> Int -> Bool} : SndOp T (rI0 fun i j => .bl (g i j)) (oB g) := by
  intro E μ H σ x y v u Q r p q h
  cases x with
  | int i =>
    cases y with
    | int j => exact ⟨i, j, zbv p, zbv q, zad.here h r (by rw [Rep])⟩
    | _ => exact h.elim
  | _ => exact h.elim
theorem snd_IC {C : Int -> Int -> Bool} {C' : Int -> Int -> Prop} {g : Int -> Int -> Int} (hC : ∀ i j, C i j = true -> C' i j) : SndOp T (rI C' fun i j => .int (g i j)) (oIC C g) := by
  intro E μ H σ x y v u Q r p q h
  cases x with
  | int i =>
    cases y with
    | int j =>
      by_cases hc : C i j = true
      · have h' : zad T E (Rep T) μ H (ret (.int (g i j)) σ) Q := by
          have e : oIC C g (.int i) (.int j) = ret (.int (g i j)) := by show (if C i j = true then _ else _) = _; rw [if_pos hc]
          rw [e] at h; exact h
        exact ⟨i, j, zbv p, zbv q, hC i j hc, zad.here h' r (by rw [Rep])⟩
      · have e : oIC C g (.int i) (.int j) = bad := by show (if C i j = true then _ else _) = _; rw [if_neg hc]
        rw [e] at h; exact h.elim
    | _ => exact h.elim
  | _ => exact h.elim
theorem snd_sub : SndOp T (rI0 fun i j => .int (i - j)) oSub := snd_I
theorem snd_mul : SndOp T (rI CMul fun i j => .int (i * j)) oMul := snd_IC fun i j h => by
  simp only [cMul, zbt, Bool.or_eq_true, Bool.and_eq_true, decide_eq_true_eq] at h; exact h
theorem zdi : SndOp T (rI CDiv fun i j => .int (i / j)) oDiv := snd_IC fun i j h => by
  simp only [cDiv, zbt, Bool.and_eq_true, decide_eq_true_eq] at h; exact h
theorem zdl : SndOp T (rI (fun _ j => 0 < j) fun i j => .int (i % j)) oMod := snd_IC fun i j h => by
  simp only [cMod, zbt, decide_eq_true_eq] at h; exact h
theorem snd_pow : SndOp T (rI CPow fun i j => .int (i ^ j.toNat)) oPow := snd_IC fun i j h => by
  simp only [cPow, zbt, Bool.and_eq_true, decide_eq_true_eq] at h; exact ⟨h.1.1, h.1.2, h.2⟩
theorem snd_shr : SndOp T (rI (fun _ j => 0 <= j) fun i j => .int (i / 2 ^ j.toNat)) oShr := snd_IC fun i j h => by
  simp only [cShr, zbt, decide_eq_true_eq] at h; exact h
theorem snd_band : SndOp T (rI0 fun i j => .int (Builtin.bitAnd i j)) oBand := snd_I
theorem snd_lt : SndOp T (rI0 fun i j => .bl (decide (i < j))) oLt := snd_B
theorem snd_le : SndOp T (rI0 fun i j => .bl (decide (i <= j))) oLe := snd_B
theorem snd_gt : SndOp T (rI0 fun i j => .bl (decide (j < i))) oGt := snd_B
theorem snd_ge : SndOp T (rI0 fun i j => .bl (decide (j <= i))) oGe := snd_B
theorem snd_neg : SndUn T (rU fun i => .int (-i)) oNeg := by
  intro E μ H σ x v Q r p h
  cases x with
  | int i => exact ⟨i, zbv p, zad.here h r (by rw [Rep])⟩
  | _ => exact h.elim
end
def sc : D -> Option V
  | .non => some .non
  | .bl b => some (.bl b)
  | .int i => some (.int i)
  | .str x => some (.str x)
  | _ => none
def lstAt (σ : Sto) (n : Nat) : Option (List D) := match σ[n]? with
  | some (.lst xs) => some xs
  | _ => none
theorem lstAt_some {σ : Sto} {n : Nat} {xs : List D} (h : lstAt σ n = some xs) : σ[n]? = some (.lst xs) := by
  unfold lstAt at h
  cases e : σ[n]? with
  | none => rw [e] at h; cases h
  | some o => rw [e] at h; cases o <;> simp at h; subst h; rfl
inductive Kd where
  | s (v : V) | t (xs : List D) | l (xs : List D) | o
def kd (σ : Sto) : D -> Kd
  | .non => .s .non
  | .bl b => .s (.bl b)
  | .int i => .s (.int i)
  | .str x => .s (.str x)
  | .tup xs => .t xs
  | .lst xs => .l xs
  | .ref n => match lstAt σ n with
    | some xs => .l xs
    | none => .o
  | _ => .o
def eqL (f : D -> D -> Option Bool) : List D -> List D -> Option Bool
  | [], [] => some true
  | [], _ :: _ => some false
  | _ :: _, [] => some false
  | x :: xs, y :: ys => match f x y, eqL f xs ys with
    | some b, some c => some (b && c)
    | _, _ => none
def eqK (f : D -> D -> Option Bool) : Kd -> Kd -> Option Bool
  | .s a, .s b => some (eqV a b)
  | .t xs, .t ys => eqL f xs ys
  | .l xs, .l ys => eqL f xs ys
  | .s _, .t _ => some false
  | .t _, .s _ => some false
  | .s _, .l _ => some false
  | .l _, .s _ => some false
  | .t _, .l _ => some false
  | .l _, .t _ => some false
  | _, _ => none
def eqD (σ : Sto) : Nat -> D -> D -> Option Bool
  | 0, x, y => eqK (fun _ _ => none) (kd σ x) (kd σ y)
  | n + 1, x, y => eqK (eqD σ n) (kd σ x) (kd σ y)
def eAt (f : D -> D -> Option Bool) (xs ys : List D) (j : Nat) : Bool := match xs[j]?, ys[j]? with
  | some a, some b => (f a b).getD false
  | _, _ => false
theorem eqL_spec (f : D -> D -> Option Bool) : ∀ (xs ys : List D) (b : Bool), eqL f xs ys = some b ->
    (∀ (j : Nat) (a c : D), xs[j]? = some a -> ys[j]? = some c -> ∃ k, f a c = some k) /\ b = ((List.range (min xs.length ys.length)).all (eAt f xs ys) && xs.length == ys.length)
  | [], [], b, h => by simp [eqL] at h; subst h; simp
  | [], y :: ys, b, h => by simp [eqL] at h; subst h; simp
  | x :: xs, [], b, h => by simp [eqL] at h; subst h; simp
  | x :: xs, y :: ys, b, h => by
    unfold eqL at h
    cases e1 : f x y with
    | none => rw [e1] at h; cases h
    | some b1 =>
      cases e2 : eqL f xs ys with
      | none => rw [e1, e2] at h; cases h
      | some b2 =>
        rw [e1, e2] at h
        cases h
        obtain ⟨h1, h2⟩ := eqL_spec f xs ys b2 e2
        refine ⟨fun j a c ha hc => ?_, ?_⟩
        · cases j with
          | zero => simp at ha hc; subst ha; subst hc; exact ⟨b1, e1⟩
          | succ j => exact h1 j a c (by simpa using ha) (by simpa using hc)
        · have e3 : min (x :: xs).length (y :: ys).length = min xs.length ys.length + 1 := by simp [Nat.succ_min_succ]
          have e4 : ∀ j, eAt f (x :: xs) (y :: ys) (j + 1) = eAt f xs ys j := fun j => by simp [eAt]
          have e5 : eAt f (x :: xs) (y :: ys) 0 = b1 := by simp [eAt, e1]
          rw [e3, List.range_succ_eq_map, List.all_cons, List.all_map, e5, h2]
          have e6 : (eAt f (x :: xs) (y :: ys) ∘ Nat.succ) = eAt f xs ys := funext fun j => e4 j
          have e7 : ((x :: xs).length == (y :: ys).length) = (xs.length == ys.length) := by simp
          rw [e6, e7, Bool.and_assoc]
section
variable {T : Tb} {μ : List Addr} {H : Hp} {σ : Sto}
theorem Rel.lst (r : Rel T μ H σ) {n : Nat} {v : V} {xs : List D} (h : Rep T μ H (.ref n) v) (e : lstAt σ n = some xs) : ∃ a vs, v = .ref a /\ μ[n]? = some a /\ H a = some (.lst vs) /\ zaf T μ H xs vs := by
  obtain ⟨a, rfl, h1, vs, h2, h3⟩ := r.at h (lstAt_some e)
  exact ⟨a, vs, rfl, h1, h2, h3⟩
theorem sc_rep {d : D} {v a : V} (h : Rep T μ H d v) (e : sc d = some a) : v = a := by
  cases d <;> simp [sc] at e <;> subst e <;> simpa [Rep] using h
theorem sc_flat {d : D} {a : V} (e : sc d = some a) : zbh a = true := by
  cases d <;> simp [sc] at e <;> subst e <;> rfl
theorem eqV_same {a : V} (h : zbh a = true) : eqV a a = true := by cases a <;> simp [zbh, eqV] at h ⊢
theorem kd_rep (r : Rel T μ H σ) {d : D} {v : V} (h : Rep T μ H d v) : match kd σ d with
    | .s a => v = a /\ zbh a = true
    | .t xs => ∃ p vs, v = .ref p /\ H p = some (.tup vs) /\ zaf T μ H xs vs
    | .l xs => ∃ p vs, v = .ref p /\ H p = some (.lst vs) /\ zaf T μ H xs vs
    | .o => True := by
  cases d with
  | non => exact ⟨by simpa [Rep] using h, rfl⟩
  | bl b => exact ⟨by simpa [Rep] using h, rfl⟩
  | int b => exact ⟨by simpa [Rep] using h, rfl⟩
  | str b => exact ⟨by simpa [Rep] using h, rfl⟩
  | tup xs => rw [Rep] at h; exact h
  | lst xs => rw [Rep] at h; obtain ⟨a, vs, h1, _, h2, h3⟩ := h; exact ⟨a, vs, h1, h2, h3⟩
  | ref n =>
    unfold kd
    dsimp only
    cases e : lstAt σ n with
    | none => trivial
    | some xs => obtain ⟨a, vs, h1, _, h2, h3⟩ := r.lst h e; exact ⟨a, vs, h1, h2, h3⟩
  | _ => trivial
theorem eqL_same {f : D -> D -> Option Bool} (hf : ∀ (x y : D) (v : V) (b : Bool), Rep T μ H x v -> Rep T μ H y v -> f x y = some b -> b = true) : ∀ (xs ys : List D) (vs : List V) (b : Bool), zaf T μ H xs vs -> zaf T μ H ys vs -> eqL f xs ys = some b -> b = true
  | [], ys, vs, b, r1, r2, h => by
    rw [zaf] at r1; subst r1
    cases ys with
    | nil => simp [eqL] at h; exact h
    | cons y ys => rw [zaf] at r2; obtain ⟨_, _, z, _⟩ := r2; cases z
  | x :: xs, ys, vs, b, r1, r2, h => by
    rw [zaf] at r1; obtain ⟨v, r, rfl, p1, q1⟩ := r1
    cases ys with
    | nil => rw [zaf] at r2; cases r2
    | cons y ys =>
      rw [zaf] at r2; obtain ⟨v', r', z, p2, q2⟩ := r2
      cases z
      unfold eqL at h
      cases e1 : f x y with
      | none => rw [e1] at h; cases h
      | some b1 =>
        cases e2 : eqL f xs ys with
        | none => rw [e1, e2] at h; cases h
        | some b2 =>
          rw [e1, e2] at h; cases h
          rw [hf x y v b1 p1 p2 e1, eqL_same hf xs ys r b2 q1 q2 e2]; rfl
theorem eqK_same (r : Rel T μ H σ) {f : D -> D -> Option Bool} (hf : ∀ (x y : D) (v : V) (b : Bool), Rep T μ H x v -> Rep T μ H y v -> f x y = some b -> b = true) {x y : D} {v : V} {b : Bool} (hx : Rep T μ H x v) (hy : Rep T μ H y v) (h : eqK f (kd σ x) (kd σ y) = some b) : b = true := by
  have kx := kd_rep r hx
  have ky := kd_rep r hy
  generalize kd σ x = k1 at h kx
  generalize kd σ y = k2 at h ky
  cases k1 with
  | s a =>
    obtain ⟨rfl, fa⟩ := kx
    cases k2 with
    | s c => obtain ⟨rfl, _⟩ := ky; cases h; exact eqV_same fa
    | t xs => obtain ⟨p, vs, rfl, _⟩ := ky; simp [zbh] at fa
    | l xs => obtain ⟨p, vs, rfl, _⟩ := ky; simp [zbh] at fa
    | o => cases h
  | t xs =>
    obtain ⟨p, vs, rfl, h1, r1⟩ := kx
    cases k2 with
    | s c => obtain ⟨e, fa⟩ := ky; rw [<- e] at fa; simp [zbh] at fa
    | t ys =>
      obtain ⟨q, ws, e, h2, r2⟩ := ky
      cases e; rw [h1] at h2; cases h2
      exact eqL_same hf xs ys vs b r1 r2 h
    | l ys => obtain ⟨q, ws, e, h2, r2⟩ := ky; cases e; rw [h1] at h2; cases h2
    | o => cases h
  | l xs =>
    obtain ⟨p, vs, rfl, h1, r1⟩ := kx
    cases k2 with
    | s c => obtain ⟨e, fa⟩ := ky; rw [<- e] at fa; simp [zbh] at fa
    | t ys => obtain ⟨q, ws, e, h2, r2⟩ := ky; cases e; rw [h1] at h2; cases h2
    | l ys =>
      obtain ⟨q, ws, e, h2, r2⟩ := ky
      cases e; rw [h1] at h2; cases h2
      exact eqL_same hf xs ys vs b r1 r2 h
    | o => cases h
  | o => cases h
theorem eqD_same (r : Rel T μ H σ) : ∀ (n : Nat) (x y : D) (v : V) (b : Bool), Rep T μ H x v -> Rep T μ H y v -> eqD σ n x y = some b -> b = true
  | 0, x, y, v, b, hx, hy, h => eqK_same r (fun _ _ _ _ _ _ z => by cases z) hx hy h
  | n + 1, x, y, v, b, hx, hy, h => eqK_same r (fun x y v b a1 a2 a3 => eqD_same r n x y v b a1 a2 a3) hx hy h
end
section
variable {T : Tb} {X : Cx} {pins : List (Addr × Obj)} {st : St} {μ : List Addr} {H : Hp} {s : Shared} {σ : Sto}
theorem sc_tup_eqAt {A : Around} {a : V} {u : Value} {p : Addr} {its : Array Value} (fa : zbh a = true) (r : zae a u) (hp : s.heap.IsTuple p its) (hu : A.units < cLine) : SeqAt.EqAt A s u (.ref p) false /\ SeqAt.EqAt A s (.ref p) u false /\ SeqAt.RcAt A s u (.ref p) false /\ SeqAt.RcAt A s (.ref p) u false /\ SeqAt.RcNeAt A s u (.ref p) true /\ SeqAt.RcNeAt A s (.ref p) u true := by
  cases a with
  | non => cases r; exact ⟨.none_tuple hp hu, .tuple_none hp hu, .none_tuple hp hu, .tuple_none hp hu, .none_tuple hp hu, .tuple_none hp hu⟩
  | bl b => cases r; exact ⟨.bool_tuple b hp hu, .tuple_bool b hp hu, .bool_tuple b hp hu, .tuple_bool b hp hu, .bool_tuple b hp hu, .tuple_bool b hp hu⟩
  | int b => obtain ⟨t, rfl⟩ := r; exact ⟨.int_tuple b t hp hu, .tuple_int b t hp hu, .int_tuple b t hp hu, .tuple_int b t hp hu, .int_tuple b t hp hu, .tuple_int b t hp hu⟩
  | str b => obtain ⟨t, rfl⟩ := r; exact ⟨.str_tuple b t hp hu, .tuple_str b t hp hu, .str_tuple b t hp hu, .tuple_str b t hp hu, .str_tuple b t hp hu, .tuple_str b t hp hu⟩
  | _ => simp [zbh] at fa
theorem sc_list_at {A : Around} {a : V} {u : Value} {p : Addr} {its : Array Value} (fa : zbh a = true) (r : zae a u) (hp : s.heap.IsList p its) (hu : A.units < cLine) : SeqAt.RcAt A s u (.ref p) false /\ SeqAt.RcAt A s (.ref p) u false /\ SeqAt.RcNeAt A s u (.ref p) true /\ SeqAt.RcNeAt A s (.ref p) u true := by
  cases a with
  | non => cases r; exact ⟨.none_list hp hu, .list_none hp hu, .none_list hp hu, .list_none hp hu⟩
  | bl b => cases r; exact ⟨.bool_list b hp hu, .list_bool b hp hu, .bool_list b hp hu, .list_bool b hp hu⟩
  | int b => obtain ⟨t, rfl⟩ := r; exact ⟨.int_list b t hp hu, .list_int b t hp hu, .int_list b t hp hu, .list_int b t hp hu⟩
  | str b => obtain ⟨t, rfl⟩ := r; exact ⟨.str_list b t hp hu, .list_str b t hp hu, .str_list b t hp hu, .list_str b t hp hu⟩
  | _ => simp [zbh] at fa
theorem sc_list_eqAt {A : Around} {a : V} {u : Value} {p : Addr} {its : Array Value} (fa : zbh a = true) (r : zae a u) (hp : s.heap.IsList p its) (hu : A.units < cLine) : SeqAt.EqAt A s u (.ref p) false := by
  cases a with
  | non => cases r; exact .none_list hp hu
  | bl b => cases r; exact .bool_list b hp hu
  | int b => obtain ⟨t, rfl⟩ := r; exact .int_list b t hp hu
  | str b => obtain ⟨t, rfl⟩ := r; exact .str_list b t hp hu
  | _ => simp [zbh] at fa
theorem sc_list_eqAt2 {A : Around} {a : V} {u : Value} {p : Addr} {its : Array Value} (fa : zbh a = true) (r : zae a u) (hp : s.heap.IsList p its) (hu : A.units < cLine) : SeqAt.EqAt A s (.ref p) u false := by
  cases a with
  | non => cases r; exact .list_none hp hu
  | bl b => cases r; exact .list_bool b hp hu
  | int b => obtain ⟨t, rfl⟩ := r; exact .list_int b t hp hu
  | str b => obtain ⟨t, rfl⟩ := r; exact .list_str b t hp hu
  | _ => simp [zbh] at fa
theorem rc_sc {A : Around} {a b : V} {u w : Value} (ra : zae a u) (rb : zae b w) (fa : zbh a = true) (fb : zbh b = true) : SeqAt.RcAt A s u w (eqV a b) /\ SeqAt.RcNeAt A s u w (!eqV a b) := by
  cases a with
  | non =>
    cases ra
    cases b with
    | non => cases rb; exact ⟨.none_none, .none_none⟩
    | bl y => cases rb; exact ⟨.none_bool y, .none_bool y⟩
    | int y => obtain ⟨t, rfl⟩ := rb; exact ⟨.none_int y t, .none_int y t⟩
    | str y => obtain ⟨t, rfl⟩ := rb; exact ⟨.none_str y t, .none_str y t⟩
    | _ => simp [zbh] at fb
  | bl x =>
    cases ra
    cases b with
    | non => cases rb; exact ⟨.bool_none x, .bool_none x⟩
    | bl y => cases rb; exact ⟨.bool_bool x y, .bool_bool x y⟩
    | int y => obtain ⟨t, rfl⟩ := rb; exact ⟨.bool_int x y t, .bool_int x y t⟩
    | str y => obtain ⟨t, rfl⟩ := rb; exact ⟨.bool_str x y t, .bool_str x y t⟩
    | _ => simp [zbh] at fb
  | int x =>
    obtain ⟨t', rfl⟩ := ra
    cases b with
    | non => cases rb; exact ⟨.int_none x t', .int_none x t'⟩
    | bl y => cases rb; exact ⟨.int_bool x t' y, .int_bool x t' y⟩
    | int y => obtain ⟨t, rfl⟩ := rb; exact ⟨.int_int x t' y t, .int_int x t' y t⟩
    | str y => obtain ⟨t, rfl⟩ := rb; exact ⟨.int_str x t' y t, .int_str x t' y t⟩
    | _ => simp [zbh] at fb
  | str x =>
    obtain ⟨t', rfl⟩ := ra
    cases b with
    | non => cases rb; exact ⟨.str_none x t', .str_none x t'⟩
    | bl y => cases rb; exact ⟨.str_bool x t' y, .str_bool x t' y⟩
    | int y => obtain ⟨t, rfl⟩ := rb; exact ⟨.str_int x t' y t, .str_int x t' y t⟩
    | str y => obtain ⟨t, rfl⟩ := rb; exact ⟨.str_str x t' y t, .str_str x t' y t⟩
    | _ => simp [zbh] at fb
  | _ => simp [zbh] at fa
theorem vals_get {xs : List V} {us : List Value} {i : Nat} {u : Value} (r : zag xs us) (h : us[i]? = some u) : ∃ x, xs[i]? = some x /\ zae x u := by
  have hl := r.length
  have hi := (List.getElem?_eq_some_iff.mp h).1
  obtain ⟨u', h1, h2⟩ := r.get (i := i) (x := xs[i]'(by omega)) (by simp)
  rw [h] at h1; cases h1
  exact ⟨_, by simp, h2⟩
theorem repl_get {ds : List D} {vs : List V} {i : Nat} {v : V} (r : zaf T μ H ds vs) (h : vs[i]? = some v) : ∃ d, ds[i]? = some d /\ Rep T μ H d v := by
  have hl := r.length
  have hi := (List.getElem?_eq_some_iff.mp h).1
  obtain ⟨v', h1, h2⟩ := r.get (i := i) (d := ds[i]'(by omega)) (by simp)
  rw [h] at h1; cases h1
  exact ⟨_, by simp, h2⟩
theorem items_at {A : Around} {f : D -> D -> Option Bool} (hf : ∀ (x y : D) (v w : V) (v' w' : Value) (b : Bool), Rep T μ H x v -> Rep T μ H y w -> zae v v' -> zae w w' -> f x y = some b -> SeqAt.EqAt A s v' w' b)
    {xs ys : List D} {vs ws : List V} {us zs : List Value} {b : Bool} (r1 : zaf T μ H xs vs) (r2 : zaf T μ H ys ws) (q1 : zag vs us) (q2 : zag ws zs) (h : eqL f xs ys = some b) :
    (∀ j (h1 : j < us.toArray.size) (h2 : j < zs.toArray.size), SeqAt.EqAt A s us.toArray[j] zs.toArray[j] (eAt f xs ys j)) /\ b = ((List.range (min us.toArray.size zs.toArray.size)).all (eAt f xs ys) && us.toArray.size == zs.toArray.size) := by
  obtain ⟨h1, h2⟩ := eqL_spec f xs ys b h
  have l1 := r1.length
  have l2 := r2.length
  have l3 := q1.length
  have l4 := q2.length
  refine ⟨fun j g1 g2 => ?_, ?_⟩
  · obtain ⟨v, e1, rv⟩ := vals_get (i := j) (u := us.toArray[j]) q1 (by simp)
    obtain ⟨w, e2, rw'⟩ := vals_get (i := j) (u := zs.toArray[j]) q2 (by simp)
    obtain ⟨x, e3, p3⟩ := repl_get r1 e1
    obtain ⟨y, e4, p4⟩ := repl_get r2 e2
    obtain ⟨k, ek⟩ := h1 j x y e3 e4
    have e5 : eAt f xs ys j = k := by simp [eAt, e3, e4, ek]
    rw [e5]
    exact hf x y v w _ _ k p3 p4 rv rw' ek
  · simp only [List.size_toArray]
    rw [h2, l1, l2, l3, l4]
abbrev RcBoth (A : Around) (s : Shared) (v w : Value) (b : Bool) : Prop := SeqAt.RcAt A s v w b /\ SeqAt.RcNeAt A s v w (!b)
theorem rcK {A : Around} (I : Inv X pins st H s) (r : Rel T μ H σ) (hu : A.units + 1 < cLine) {f : D -> D -> Option Bool}
    (hf : ∀ (x y : D) (v w : V) (v' w' : Value) (b : Bool), Rep T μ H x v -> Rep T μ H y w -> zae v v' -> zae w w' -> f x y = some b -> SeqAt.EqAt A.in1 s v' w' b)
    {x y : D} {v w : V} {v' w' : Value} {b : Bool} (hx : Rep T μ H x v) (hy : Rep T μ H y w) (rv : zae v v') (rw' : zae w w') (h : eqK f (kd σ x) (kd σ y) = some b) : RcBoth A s v' w' b := by
  have hu0 : A.units < cLine := by omega
  have kx := kd_rep r hx
  have ky := kd_rep r hy
  generalize kd σ x = k1 at h kx
  generalize kd σ y = k2 at h ky
  cases k1 with
  | o => cases h
  | s a =>
    obtain ⟨rfl, fa⟩ := kx
    cases k2 with
    | o => cases h
    | s c => obtain ⟨rfl, fc⟩ := ky; cases h; exact rc_sc rv rw' fa fc
    | t ys =>
      obtain ⟨q, ws, rfl, h2, r2⟩ := ky
      cases h; cases rw'
      obtain ⟨its, _, hq, _⟩ := L2.Inv.tuple I (SqT.of (K := X.K) h2)
      obtain ⟨_, _, a1, a2, a3, a4⟩ := sc_tup_eqAt fa rv hq hu0
      exact ⟨a1, a3⟩
    | l ys =>
      obtain ⟨q, ws, rfl, h2, r2⟩ := ky
      cases h; cases rw'
      obtain ⟨its, _, pl, _⟩ := L2.Inv.list I (SqL.of (K := X.K) h2)
      obtain ⟨a1, a2, a3, a4⟩ := sc_list_at fa rv pl.isList hu0
      exact ⟨a1, a3⟩
  | t xs =>
    obtain ⟨p, vs, rfl, h1, r1⟩ := kx
    cases rv
    obtain ⟨its, q1, hp, _⟩ := L2.Inv.tuple I (SqT.of (K := X.K) h1)
    cases k2 with
    | o => cases h
    | s c =>
      obtain ⟨rfl, fc⟩ := ky; cases h
      obtain ⟨_, _, a1, a2, a3, a4⟩ := sc_tup_eqAt fc rw' hp hu0
      exact ⟨a2, a4⟩
    | t ys =>
      obtain ⟨q, ws, rfl, h2, r2⟩ := ky
      cases rw'
      obtain ⟨its2, q2, hq, _⟩ := L2.Inv.tuple I (SqT.of (K := X.K) h2)
      obtain ⟨g1, g2⟩ := items_at (A := A.in1) hf r1 r2 q1 q2 h
      rw [g2]
      exact ⟨.tuples hp hq (by omega) g1, .tuples hp hq (by omega) g1⟩
    | l ys =>
      obtain ⟨q, ws, rfl, h2, r2⟩ := ky
      cases h; cases rw'
      obtain ⟨its2, _, pl, _⟩ := L2.Inv.list I (SqL.of (K := X.K) h2)
      exact ⟨.tuple_list hp pl.isList hu0, .tuple_list hp pl.isList hu0⟩
  | l xs =>
    obtain ⟨p, vs, rfl, h1, r1⟩ := kx
    cases rv
    obtain ⟨its, q1, pl, _⟩ := L2.Inv.list I (SqL.of (K := X.K) h1)
    cases k2 with
    | o => cases h
    | s c =>
      obtain ⟨rfl, fc⟩ := ky; cases h
      obtain ⟨a1, a2, a3, a4⟩ := sc_list_at fc rw' pl.isList hu0
      exact ⟨a2, a4⟩
    | t ys =>
      obtain ⟨q, ws, rfl, h2, r2⟩ := ky
      cases h; cases rw'
      obtain ⟨its2, _, hq, _⟩ := L2.Inv.tuple I (SqT.of (K := X.K) h2)
      exact ⟨.list_tuple pl.isList hq hu0, .list_tuple pl.isList hq hu0⟩
    | l ys =>
      obtain ⟨q, ws, rfl, h2, r2⟩ := ky
      cases rw'
      obtain ⟨its2, q2, pl2, _⟩ := L2.Inv.list I (SqL.of (K := X.K) h2)
      obtain ⟨g1, g2⟩ := items_at (A := A.in1) hf r1 r2 q1 q2 h
      by_cases hz : its.toArray.size = its2.toArray.size
      · have e : b = (List.range its.toArray.size).all (eAt f xs ys) := by rw [g2, <- hz]; simp
        rw [e]
        exact ⟨.lists pl.isList pl2.isList hz (by omega) g1, .lists pl.isList pl2.isList hz (by omega) g1⟩
      · have e : b = false := by rw [g2, beq_eq_false_iff_ne.mpr hz, Bool.and_false]
        rw [e]
        exact ⟨.lists_lengths pl.isList pl2.isList (by simpa using hz) (by omega), .lists_lengths pl.isList pl2.isList (by simpa using hz) (by omega)⟩
theorem eqK_at {A : Around} (I : Inv X pins st H s) (r : Rel T μ H σ) (hu : A.units + 1 < cLine) {f : D -> D -> Option Bool}
    (hf : ∀ (x y : D) (v w : V) (v' w' : Value) (b : Bool), Rep T μ H x v -> Rep T μ H y w -> zae v v' -> zae w w' -> f x y = some b -> SeqAt.EqAt A.in1 s v' w' b)
    (hs : ∀ (x y : D) (v : V) (b : Bool), Rep T μ H x v -> Rep T μ H y v -> f x y = some b -> b = true)
    {x y : D} {v w : V} {v' w' : Value} {b : Bool} (hx : Rep T μ H x v) (hy : Rep T μ H y w) (rv : zae v v') (rw' : zae w w') (h : eqK f (kd σ x) (kd σ y) = some b) : SeqAt.EqAt A s v' w' b := by
  have hu0 : A.units < cLine := by omega
  have rc := (rcK I r hu hf hx hy rv rw' h).1
  by_cases hvw : v = w
  · subst hvw
    have hb := eqK_same r hs hx hy h
    have kx := kd_rep r hx
    have ky := kd_rep r hy
    generalize kd σ x = k1 at h kx
    generalize kd σ y = k2 at h ky
    cases k1 with
    | o => cases h
    | s a =>
      obtain ⟨rfl, fa⟩ := kx
      cases k2 with
      | o => cases h
      | s c => obtain ⟨rfl, fc⟩ := ky; cases h; exact eqAt_V rv rw' fa fc
      | t ys => obtain ⟨q, ws, e, _⟩ := ky; rw [e] at fa; simp [zbh] at fa
      | l ys => obtain ⟨q, ws, e, _⟩ := ky; rw [e] at fa; simp [zbh] at fa
    | t xs =>
      obtain ⟨p, vs, rfl, _⟩ := kx
      cases rv; cases rw'
      rw [hb]; exact SeqAt.EqAt.same _
    | l xs =>
      obtain ⟨p, vs, rfl, _⟩ := kx
      cases rv; cases rw'
      rw [hb]; exact SeqAt.EqAt.same _
  · have kx := kd_rep r hx
    have ky := kd_rep r hy
    generalize kd σ x = k1 at h kx
    generalize kd σ y = k2 at h ky
    cases k1 with
    | o => cases h
    | s a =>
      obtain ⟨rfl, fa⟩ := kx
      cases k2 with
      | o => cases h
      | s c => obtain ⟨rfl, fc⟩ := ky; cases h; exact eqAt_V rv rw' fa fc
      | t ys =>
        obtain ⟨q, ws, rfl, h2, r2⟩ := ky
        cases h; cases rw'
        obtain ⟨its, _, hq, _⟩ := L2.Inv.tuple I (SqT.of (K := X.K) h2)
        exact (sc_tup_eqAt fa rv hq hu0).1
      | l ys =>
        obtain ⟨q, ws, rfl, h2, r2⟩ := ky
        cases h; cases rw'
        obtain ⟨its, _, pl, _⟩ := L2.Inv.list I (SqL.of (K := X.K) h2)
        exact sc_list_eqAt fa rv pl.isList hu0
    | t xs =>
      obtain ⟨p, vs, rfl, h1, r1⟩ := kx
      cases rv
      cases k2 with
      | o => cases h
      | s c =>
        obtain ⟨rfl, fc⟩ := ky; cases h
        obtain ⟨its, _, hp, _⟩ := L2.Inv.tuple I (SqT.of (K := X.K) h1)
        exact (sc_tup_eqAt fc rw' hp hu0).2.1
      | t ys => obtain ⟨q, ws, rfl, _⟩ := ky; cases rw'; exact .of_refs (fun e => hvw (by rw [e])) rc
      | l ys => obtain ⟨q, ws, rfl, _⟩ := ky; cases rw'; exact .of_refs (fun e => hvw (by rw [e])) rc
    | l xs =>
      obtain ⟨p, vs, rfl, h1, r1⟩ := kx
      cases rv
      cases k2 with
      | o => cases h
      | s c =>
        obtain ⟨rfl, fc⟩ := ky; cases h
        obtain ⟨its, _, pl, _⟩ := L2.Inv.list I (SqL.of (K := X.K) h1)
        exact sc_list_eqAt2 fc rw' pl.isList hu0
      | t ys => obtain ⟨q, ws, rfl, _⟩ := ky; cases rw'; exact .of_refs (fun e => hvw (by rw [e])) rc
      | l ys => obtain ⟨q, ws, rfl, _⟩ := ky; cases rw'; exact .of_refs (fun e => hvw (by rw [e])) rc
theorem eqD_at (I : Inv X pins st H s) (r : Rel T μ H σ) : ∀ (n : Nat) (A : Around) (x y : D) (v w : V) (v' w' : Value) (b : Bool), A.units + n + 1 < cLine -> Rep T μ H x v -> Rep T μ H y w -> zae v v' -> zae w w' -> eqD σ n x y = some b -> SeqAt.EqAt A s v' w' b
  | 0, A, x, y, v, w, v', w', b, hu, hx, hy, rv, rw', h => eqK_at I r (by omega) (fun _ _ _ _ _ _ _ _ _ _ _ z => by cases z) (fun _ _ _ _ _ _ z => by cases z) hx hy rv rw' h
  | n + 1, A, x, y, v, w, v', w', b, hu, hx, hy, rv, rw', h => eqK_at I r (by omega) (fun x y v w v' w' b a1 a2 a3 a4 a5 => eqD_at I r n A.in1 x y v w v' w' b (by show A.units + 1 + n + 1 < cLine; omega) a1 a2 a3 a4 a5) (fun x y v b a1 a2 a3 => eqD_same r n x y v b a1 a2 a3) hx hy rv rw' h
theorem rcD {A : Around} (I : Inv X pins st H s) (r : Rel T μ H σ) (n : Nat) (hu : A.units + n + 1 < cLine) {x y : D} {v w : V} {v' w' : Value} {b : Bool} (hx : Rep T μ H x v) (hy : Rep T μ H y w) (rv : zae v v') (rw' : zae w w') (h : eqD σ n x y = some b) : RcBoth A s v' w' b := by
  cases n with
  | zero => exact rcK I r (by omega) (fun _ _ _ _ _ _ _ _ _ _ _ z => by cases z) hx hy rv rw' h
  | succ n => exact rcK I r (by omega) (fun x y v w v' w' b a1 a2 a3 a4 a5 => eqD_at I r n A.in1 x y v w v' w' b (by show A.units + 1 + n + 1 < cLine; omega) a1 a2 a3 a4 a5) hx hy rv rw' h
end
end L4
namespace L4
open PySem PySem.Spec PyProof.Rows L2
section
variable {T : Tb} {X : Cx} {pins : List (Addr × Obj)} {st : St} {μ : List Addr} {H : Hp} {s : Shared} {σ : Sto}
def oEq (x y : D) : M D := fun σ => match eqD σ 8 x y with
  | some b => .ok (.bl b) σ
  | none => .bad
def oNe (x y : D) : M D := fun σ => match eqD σ 8 x y with
  | some b => .ok (.bl (!b)) σ
  | none => .bad
theorem zcm (hu : X.A.units + 9 < cLine) : OpR X (compareOp .Eq) (rD T oEq) := by
  intro pins s st H v u v' u' Q I rv ru h
  obtain ⟨E, μ, σ, x, y, r, hx, hy, hp⟩ := h
  unfold oEq at hp
  cases e : eqD σ 8 x y with
  | none => rw [e] at hp; exact hp.elim
  | some b =>
    rw [e] at hp
    have := (rcD I r 8 (by omega) hx hy rv ru e).1 X.prog X.w X.xe (EP X pins st Q) ⟨.bl b, H, I, rfl, zad.here hp r (by rw [Rep])⟩
    exact this
theorem op_neD (hu : X.A.units + 9 < cLine) : OpR X (compareOp .NotEq) (rD T oNe) := by
  intro pins s st H v u v' u' Q I rv ru h
  obtain ⟨E, μ, σ, x, y, r, hx, hy, hp⟩ := h
  unfold oNe at hp
  cases e : eqD σ 8 x y with
  | none => rw [e] at hp; exact hp.elim
  | some b =>
    rw [e] at hp
    have := (rcD I r 8 (by omega) hx hy rv ru e).2 X.prog X.w X.xe (EP X pins st Q) ⟨.bl (!b), H, I, rfl, zad.here hp r (by rw [Rep])⟩
    exact this
def oIsN (x y : D) : M D := fun σ => match y with
  | .non => (match x with
    | .non => .ok (.bl true) σ
    | _ => .ok (.bl false) σ)
  | _ => .bad
def oNotN (x y : D) : M D := fun σ => match y with
  | .non => (match x with
    | .non => .ok (.bl false) σ
    | _ => .ok (.bl true) σ)
  | _ => .bad
theorem non_iff {x : D} {v : V} (h : Rep T μ H x v) : decide (v = .non) = (match x with | .non => true | _ => false) := by
  cases x with
  | non => rw [Rep] at h; subst h; rfl
  | tup ds => rw [Rep] at h; obtain ⟨p, _, rfl, _⟩ := h; simp
  | scr ds => rw [Rep] at h; obtain ⟨p, rfl, _⟩ := h; simp
  | ref ds => rw [Rep] at h; obtain ⟨p, rfl, _⟩ := h; simp
  | lst ds => rw [Rep] at h; obtain ⟨p, _, rfl, _⟩ := h; simp
  | dic ks ds => rw [Rep] at h; obtain ⟨p, _, rfl, _⟩ := h; simp
  | obj c ks ds => rw [Rep] at h; obtain ⟨p, _, _, rfl, _⟩ := h; simp
  | exn c => rw [Rep] at h; obtain ⟨p, rfl, _⟩ := h; simp
  | _ => rw [Rep] at h; subst h; simp
theorem snd_isN : SndOp T (fun x y H Q => y = .non /\ Q (.bl (decide (x = .non))) H) oIsN := by
  intro E μ H σ x y v u Q r p q h
  cases y with
  | non =>
    refine ⟨by rw [Rep] at q; exact q, ?_⟩
    rw [non_iff p]
    cases x <;> exact zad.here h r (by rw [Rep])
  | _ => exact h.elim
theorem snd_notN : SndOp T (fun x y H Q => y = .non /\ Q (.bl (!decide (x = .non))) H) oNotN := by
  intro E μ H σ x y v u Q r p q h
  cases y with
  | non =>
    refine ⟨by rw [Rep] at q; exact q, ?_⟩
    rw [non_iff p]
    cases x <;> exact zad.here h r (by rw [Rep] <;> rfl)
  | _ => exact h.elim
theorem atI_rep {ds : List D} {vs : List V} {k : Int} {d : D} (r : zaf T μ H ds vs) (h : atI ds k = some d) : ∃ v, atI vs k = some v /\ Rep T μ H d v := by
  unfold atI at h ⊢
  rw [<- r.length]
  cases e : ixN ds.length k with
  | none => rw [e] at h; cases h
  | some j => rw [e] at h; exact r.get h
theorem repl_ints : ∀ (ns : List Int), zaf T μ H (ns.map D.int) (ns.map V.int)
  | [] => zaf.nil
  | n :: ns => zaf.cons (by rw [Rep]) (repl_ints ns)
def seqOf (σ : Sto) : D -> Option (List D)
  | .tup xs => some xs
  | .scr ns => some (ns.map D.int)
  | .ref n => lstAt σ n
  | .lst xs => some xs
  | _ => none
def oIx (x i : D) : M D := fun σ => match i with
  | .int k => (match seqOf σ x with
    | some xs => (match atI xs k with
      | some d => .ok d σ
      | none => .bad)
    | none => .bad)
  | _ => .bad
theorem seq_rep (r : Rel T μ H σ) {x : D} {v : V} {xs : List D} (h : Rep T μ H x v) (e : seqOf σ x = some xs) : ∃ p vs, v = .ref p /\ zaf T μ H xs vs /\ (SqL T.K H p vs \/ SqT T.K H p vs) := by
  cases x with
  | tup ds => cases e; rw [Rep] at h; obtain ⟨p, vs, rfl, h1, h2⟩ := h; exact ⟨p, vs, rfl, h2, .inr (SqT.of h1)⟩
  | scr ns => cases e; rw [Rep] at h; obtain ⟨p, rfl, h1⟩ := h; exact ⟨p, _, rfl, repl_ints ns, .inl h1.seq⟩
  | ref n => obtain ⟨a, vs, rfl, _, h1, h2⟩ := r.lst h e; exact ⟨a, vs, rfl, h2, .inl (SqL.of h1)⟩
  | lst ds => cases e; rw [Rep] at h; obtain ⟨p, vs, rfl, _, h1, h2⟩ := h; exact ⟨p, vs, rfl, h2, .inl (SqL.of h1)⟩
  | _ => cases e
theorem zdj (hK : T.K = X.K) : SndOp T (fun x y H Q => rIxL X.K x y H Q \/ rIxT X.K x y H Q) oIx := by
  intro E μ H σ x y v u Q r p q h
  cases y with
  | int k =>
    unfold oIx at h
    cases e : seqOf σ x with
    | none => simp only [e] at h; exact h.elim
    | some xs =>
      simp only [e] at h
      cases e2 : atI xs k with
      | none => rw [e2] at h; exact h.elim
      | some d =>
        rw [e2] at h
        obtain ⟨a, vs, rfl, h1, h2⟩ := seq_rep r p e
        obtain ⟨w, h3, h4⟩ := atI_rep h1 e2
        rw [hK] at h2
        rcases h2 with h2 | h2
        · exact .inl ⟨a, vs, k, w, rfl, zbv q, h2, h3, zad.here h r h4⟩
        · exact .inr ⟨a, vs, k, w, rfl, zbv q, h2, h3, zad.here h r h4⟩
  | _ => exact h.elim
theorem zbw : IxR X (fun x y H Q => rIxL X.K x y H Q \/ rIxT X.K x y H Q) := ix_list.or ix_tup
def isF (d : D) : Bool := (sc d).isSome
def eqF (x y : D) : Bool := match sc x, sc y with
  | some a, some b => eqV a b
  | _, _ => false
def oIn (neg : Bool) (x y : D) : M D := fun σ => match seqOf σ y with
  | some xs => if (isF x && xs.all isF) = true then .ok (.bl (if neg then !(xs.any fun z => eqF z x) else xs.any fun z => eqF z x)) σ else .bad
  | none => .bad
theorem flat_all : ∀ {ds : List D} {vs : List V}, zaf T μ H ds vs -> ds.all isF = true -> vs.all zbh = true
  | [], vs, h, _ => by rw [zaf] at h; subst h; rfl
  | d :: ds, vs, h, e => by
    rw [zaf] at h
    obtain ⟨v, r, rfl, h1, h2⟩ := h
    rw [List.all_cons, Bool.and_eq_true] at e ⊢
    obtain ⟨a, ea⟩ := Option.isSome_iff_exists.mp e.1
    exact ⟨by rw [sc_rep h1 ea]; exact sc_flat ea, flat_all h2 e.2⟩
theorem any_eqF {x : D} {a : V} (ex : sc x = some a) : ∀ {ds : List D} {vs : List V}, zaf T μ H ds vs -> ds.all isF = true -> (ds.any fun z => eqF z x) = vs.any fun y => eqV y a
  | [], vs, h, _ => by rw [zaf] at h; subst h; rfl
  | d :: ds, vs, h, e => by
    rw [zaf] at h
    obtain ⟨v, r, rfl, h1, h2⟩ := h
    rw [List.all_cons, Bool.and_eq_true] at e
    obtain ⟨c, ec⟩ := Option.isSome_iff_exists.mp e.1
    rw [List.any_cons, List.any_cons, any_eqF ex h2 e.2]
    have : eqF d x = eqV v a := by unfold eqF; rw [ec, ex, sc_rep h1 ec]
    rw [this]
theorem snd_in (hK : T.K = X.K) (neg : Bool) : SndOp T (rIn X.K neg) (oIn neg) := by
  intro E μ H σ x y v u Q r p q h
  unfold oIn at h
  cases e : seqOf σ y with
  | none => rw [e] at h; exact h.elim
  | some xs =>
    rw [e] at h
    by_cases hc : (isF x && xs.all isF) = true
    · simp only [hc, if_true] at h
      rw [Bool.and_eq_true] at hc
      obtain ⟨a, ea⟩ := Option.isSome_iff_exists.mp hc.1
      obtain ⟨b, vs, rfl, h1, h2⟩ := seq_rep r q e
      rw [hK] at h2
      refine ⟨b, vs, rfl, h2, by rw [sc_rep p ea]; exact sc_flat ea, flat_all h1 hc.2, ?_⟩
      have e3 : inV v vs = xs.any fun z => eqF z x := by unfold inV; rw [any_eqF ea h1 hc.2, sc_rep p ea]
      rw [e3]
      exact zad.here h r (by rw [Rep])
    · simp only [hc] at h; exact h.elim
def oLen (xs : List D) : M D := fun σ => match xs with
  | [x] => (match seqOf σ x with
    | some ys => .ok (.int ys.length) σ
    | none => .bad)
  | _ => .bad
theorem zdk (hK : T.K = X.K) : SndCall T (fun xs H Q => ∃ p ys, xs = [.ref p] /\ (SqL X.K H p ys \/ SqT X.K H p ys) /\ Q (.int ys.length) H) oLen := by
  intro E μ H σ xs vs Q r p h
  match xs with
  | [] => exact h.elim
  | [x] =>
    rw [zaf] at p
    obtain ⟨v, w, rfl, p1, p2⟩ := p
    rw [zaf] at p2; subst p2
    unfold oLen at h
    cases e : seqOf σ x with
    | none => simp only [e] at h; exact h.elim
    | some ys =>
      simp only [e] at h
      obtain ⟨b, vs, rfl, h1, h2⟩ := seq_rep r p1 e
      rw [hK] at h2
      exact ⟨b, vs, rfl, h2, by rw [<- h1.length]; exact zad.here h r (by rw [Rep])⟩
  | _ :: _ :: _ => exact h.elim
def oList (xs : List D) : M D := fun σ => match xs with
  | [x] => (match seqOf σ x with
    | some ys => mkLst ys σ
    | none => .bad)
  | _ => .bad
theorem snd_list (hK : T.K = X.K) : SndCall T (fun xs H Q => ∃ p ys, xs = [.ref p] /\ (SqL X.K H p ys \/ SqT X.K H p ys) /\ ∀ l, H l = none -> Q (.ref l) (upd H l (.lst ys))) oList := by
  intro E μ H σ xs vs Q r p h
  match xs with
  | [] => exact h.elim
  | [x] =>
    rw [zaf] at p
    obtain ⟨v, w, rfl, p1, p2⟩ := p
    rw [zaf] at p2; subst p2
    unfold oList at h
    cases e : seqOf σ x with
    | none => simp only [e] at h; exact h.elim
    | some ys =>
      simp only [e] at h
      obtain ⟨b, vs, rfl, h1, h2⟩ := seq_rep r p1 e
      rw [hK] at h2
      exact ⟨b, vs, rfl, h2, fun l hl => new_lst h r h1 hl⟩
  | _ :: _ :: _ => exact h.elim
def oTuple (xs : List D) : M D := fun σ => match xs with
  | [x] => (match seqOf σ x with
    | some ys => .ok (.tup ys) σ
    | none => .bad)
  | _ => .bad
end
def zaq (o : List D -> M D) (fs : Ev -> M (List D)) : Ev -> M D := fun ρ => bnd (fs ρ) o
section
variable {T : Tb} {X : Cx} {x : Str} {p pos : Pos} {e : Expr} {es : List Expr} {fs : Ev -> M (List D)} {id ty : String} {r : List V -> Hp -> VK -> Prop} {o : List D -> M D}
theorem callD (hs : SndCall T r o) {st : St} {H : Hp} {Q : VK} (h : tF T X (zaq o fs) st H Q) : tCB r (tL T X fs) st H Q := by
  obtain ⟨μ, ρ, σ, he, hr, hp⟩ := h
  exact ⟨μ, ρ, σ, he, hr, hp.bind fun ds σ1 μ1 vs H1 _ e1 r1 p1 q1 => hs _ μ1 H1 σ1 ds vs Q r1 p1 q1⟩
theorem zav (hc : CallR X (.builtin id) r) (hs : SndCall T r o) (hg : Gl X x) (hm : X.mg x = none) (hv : bootBuiltins x = some (.builtin id)) (ha : FA T X (e :: es) fs) (hn : x ≠ "__name__" := by decide) (hdb : (x == ("__debug__" : Str)) = false := by decide)
    (he : starEach (e :: es) X.env = (false, eval e X.env) :: starEach es X.env := by rfl) (hpl : (backTo pos (starEach es X.env)).any (·.1) = false := by rfl) : FE T X (.Call (.Name x p) (e :: es) [] pos) (zaq o fs) :=
  fun pins s st H Q I h => pe_callB hc hg hm hv ha hn hdb he hpl pins s st H Q I (callD hs h)
theorem fe_callTy (hc : CallR X (.type ty) r) (hs : SndCall T r o) (hg : Gl X x) (hm : X.mg x = none) (hv : bootBuiltins x = some (.type ty)) (ha : FA T X (e :: es) fs) (hn : x ≠ "__name__" := by decide) (hdb : (x == ("__debug__" : Str)) = false := by decide)
    (he : starEach (e :: es) X.env = (false, eval e X.env) :: starEach es X.env := by rfl) (hpl : (backTo pos (starEach es X.env)).any (·.1) = false := by rfl) : FE T X (.Call (.Name x p) (e :: es) [] pos) (zaq o fs) :=
  fun pins s st H Q I h => pe_callTy hc hg hm hv ha hn hdb he hpl pins s st H Q I (callD hs h)
end
def lsOf (σ : Sto) : D -> Option (List D)
  | .ref n => lstAt σ n
  | .lst xs => some xs
  | _ => none
theorem Rel.ls {T : Tb} {μ : List Addr} {H : Hp} {σ : Sto} (r : Rel T μ H σ) {x : D} {v : V} {xs : List D} (h : Rep T μ H x v) (e : lsOf σ x = some xs) : ∃ a vs, v = .ref a /\ H a = some (.lst vs) /\ zaf T μ H xs vs := by
  cases x with
  | ref n => obtain ⟨a, vs, h1, _, h2, h3⟩ := r.lst h e; exact ⟨a, vs, h1, h2, h3⟩
  | lst ys => cases e; rw [Rep] at h; obtain ⟨a, vs, h1, _, h2, h3⟩ := h; exact ⟨a, vs, h1, h2, h3⟩
  | _ => cases e
def methK (o : D -> List D -> M D) (m : M (List D)) (x : D) : M D := fun σ => match lsOf σ x with
  | some _ => bnd m (o x) σ
  | none => .bad
def eMeth (o : D -> List D -> M D) (f : Ev -> M D) (fs : Ev -> M (List D)) : Ev -> M D := fun ρ => bnd (f ρ) (methK o (fs ρ))
def SndMt (T : Tb) (r : V -> List V -> Hp -> VK -> Prop) (o : D -> List D -> M D) : Prop := ∀ (E : XK) μ H σ x xs v vs Q, Rel T μ H σ -> Rep T μ H x v -> zaf T μ H xs vs -> zad T E (Rep T) μ H (o x xs σ) Q -> r v vs H Q
def oAppend (x : D) (xs : List D) : M D := fun σ => match x, xs with
  | .ref n, [y] => (match lstAt σ n with
    | some ys => if ys.length < cap then .ok .non (σ.set n (.lst (ys ++ [y]))) else .bad
    | none => .bad)
  | _, _ => .bad
section
variable {T : Tb} {X : Cx} {o e : Expr} {es : List Expr} {f : Ev -> M D} {fs : Ev -> M (List D)} {name : Str} {apos cpos : Pos} {id : String} {r : V -> List V -> Hp -> VK -> Prop} {g : D -> List D -> M D}
theorem fe_meth (pa : PlainAttrs "list") (slot : Slot "list" name id) (hty : typeOf (.builtin id) = pure (.type "method_descriptor")) (hm : MtR X id r) (hs : SndMt T r g) (ho : FE T X o f) (ha : FA T X (e :: es) fs)
    (hbase : attributeBase o name X.env (eval o X.env) = eval o X.env := by rfl)
    (hfew : ((backTo cpos (starEach (e :: es) X.env)).all (fun x => !x.1) && (backToKw cpos (keywordEach [] X.env)).all (fun x => x.1.isSome)
      && decide ((e :: es).length + ([] : List Keyword).length + (if ([] : List Keyword).isEmpty then 0 else 1) < 30)) = true := by rfl)
    (hline : (apos.endLine == cpos.line) = true := by rfl) (hst : starEach (e :: es) X.env = (false, eval e X.env) :: starEach es X.env := by rfl) (hplain : (backTo cpos (starEach es X.env)).any (·.1) = false := by rfl) :
    FE T X (.Call (.Attribute o name apos) (e :: es) [] cpos) (eMeth g f fs) := by
  intro pins s st H Q I h
  refine pe_bm pa slot hty hm ho ha hbase hfew hline hst hplain pins s st H Q I ?_
  obtain ⟨μ, ρ, σ, he, hr, hp⟩ := h
  refine ⟨μ, ρ, σ, he, hr, hp.bind fun x σ1 μ1 v H1 _ e1 r1 p1 q1 => ?_⟩
  unfold methK at q1
  cases el : lsOf σ1 x with
  | none => rw [el] at q1; exact q1.elim
  | some xs =>
    rw [el] at q1
    obtain ⟨a, vs, rfl, h1, h2⟩ := r1.ls p1 el
    refine ⟨.inl ⟨rfl, vs, SqL.of h1⟩, μ1, ρ, σ1, he.mono e1, r1, q1.bind fun ds σ2 μ2 ws H2 _ e2 r2 p2 q2 => ?_⟩
    exact hs _ μ2 H2 σ2 x ds (.ref a) ws Q r2 (Rep.mono e2 _ _ p1) p2 q2
theorem snd_append : SndMt T rAppend oAppend := by
  intro E μ H σ x xs v vs Q r p q h
  cases x with
  | ref n =>
    match xs with
    | [] => exact h.elim
    | [y] =>
      rw [zaf] at q
      obtain ⟨w, z, rfl, q1, q2⟩ := q
      rw [zaf] at q2; subst q2
      unfold oAppend at h
      cases el : lstAt σ n with
      | none => simp only [el] at h; exact h.elim
      | some ys =>
        simp only [el] at h
        by_cases hc : ys.length < cap
        · rw [if_pos hc] at h
          obtain ⟨a, vs, rfl, hn, h1, h2⟩ := r.lst p el
          have wr := r.write (o := .lst (vs ++ [w])) (ob := .lst (ys ++ [y])) hn ⟨_, upd_same, by
            have ex : Ext μ H μ (upd H a (.lst (vs ++ [w]))) := ext_write (List.mem_of_getElem? hn) h1 (fun _ z => by cases z) (fun _ _ z => by cases z)
            exact zaf.append (zaf.mono ex _ _ h2) (zaf.cons (Rep.mono ex _ _ q1) zaf.nil)⟩
          exact ⟨a, vs, w, rfl, rfl, h1, by rw [<- h2.length]; exact cap_lt hc, h _ _ _ wr.1 wr.2 (by rw [Rep])⟩
        · rw [if_neg hc] at h; exact h.elim
    | _ :: _ :: _ => exact h.elim
  | _ => exact h.elim
end
end L4
namespace L4
open PySem PySem.Spec PyProof.Rows L2
inductive BT where
  | int | bool | str | tuple | list | dict
def BT.nm : BT -> String
  | .int => "int" | .bool => "bool" | .str => "str" | .tuple => "tuple" | .list => "list" | .dict => "dict"
def isBT (σ : Sto) (c : BT) : D -> Option Bool
  | .non => some false
  | .bl _ => some (match c with | .int => true | .bool => true | _ => false)
  | .int _ => some (match c with | .int => true | _ => false)
  | .str _ => some (match c with | .str => true | _ => false)
  | .tup _ => some (match c with | .tuple => true | _ => false)
  | .scr _ => none
  | .lst _ => some (match c with | .list => true | _ => false)
  | .dic _ _ => some (match c with | .dict => true | _ => false)
  | .obj _ _ _ => none
  | .exn _ => none
  | .ref n => match σ[n]? with
    | some (.lst _) => some (match c with | .list => true | _ => false)
    | some (.dic _) => some (match c with | .dict => true | _ => false)
    | _ => none
def oIsB (c : BT) (x : D) : M D := fun σ => match isBT σ c x with
  | some b => .ok (.bl b) σ
  | none => .bad
section
variable {T : Tb} {X : Cx}
def rIsI (K : PySem.W.Frag) (c : String) : List V -> Hp -> VK -> Prop := fun xs H Q => ∃ x t b, xs = [x, .ty c] /\ TyOf K H x t /\ PySem.W.kitOne K t (.type c) = some b /\ Q (.bl b) H
theorem call_isI (c : String) : CallR X (.builtin "isinstance") (rIsI X.K c) := by
  intro pins s st H xs us Q I r h
  obtain ⟨x, t, b, rfl, ty, e, q⟩ := h
  obtain ⟨u, u2, rfl, ru, ru2⟩ := vals2 r
  cases ru2
  exact isinst_ok I ru ty e fun tk => ⟨.bl b, H, I.tok _, rfl, q⟩
theorem ty_of {μ : List Addr} {H : Hp} {σ : Sto} {x : D} {v : V} {c : BT} {b : Bool} (r : Rel T μ H σ) (p : Rep T μ H x v) (h : isBT σ c x = some b) : ∃ t, TyOf X.K H v t /\ PySem.W.kitOne X.K t (.type c.nm) = some b := by
  cases x with
  | non => rw [Rep] at p; subst p; refine ⟨_, .non, ?_⟩; cases c <;> cases h <;> rfl
  | bl i => rw [Rep] at p; subst p; refine ⟨_, .bl i, ?_⟩; cases c <;> cases h <;> rfl
  | int i => rw [Rep] at p; subst p; refine ⟨_, .int i, ?_⟩; cases c <;> cases h <;> rfl
  | str i => rw [Rep] at p; subst p; refine ⟨_, .str i, ?_⟩; cases c <;> cases h <;> rfl
  | tup ds => rw [Rep] at p; obtain ⟨q, vs, rfl, h1, _⟩ := p; refine ⟨_, .tup h1, ?_⟩; cases c <;> cases h <;> rfl
  | scr ns => cases h
  | lst ds => rw [Rep] at p; obtain ⟨q, vs, rfl, _, h1, _⟩ := p; refine ⟨_, .lst h1, ?_⟩; cases c <;> cases h <;> rfl
  | dic ks ds => rw [Rep] at p; obtain ⟨q, vs, rfl, _, h1, _⟩ := p; refine ⟨_, .dK h1, ?_⟩; cases c <;> cases h <;> rfl
  | obj c' ks ds => cases h
  | exn c' => cases h
  | ref n =>
    unfold isBT at h; dsimp only at h
    cases e : σ[n]? with
    | none => rw [e] at h; cases h
    | some o =>
      rw [e] at h
      obtain ⟨a, rfl, _, h2⟩ := r.at p e
      cases o with
      | lst xs => obtain ⟨vs, h3, _⟩ := h2; refine ⟨_, .lst h3, ?_⟩; cases c <;> cases h <;> rfl
      | dic xs => obtain ⟨vs, h3, _⟩ := h2; refine ⟨_, .dK h3, ?_⟩; cases c <;> cases h <;> rfl
      | ins c' fs => cases h
theorem fe_isB (c : BT) {tn : Str} {e : Expr} {f : Ev -> M D} {p p2 pos : Pos} (he : FE T X e f) (hg : Gl X "isinstance") (hm : X.mg "isinstance" = none) (hg2 : Gl X tn) (hm2 : X.mg tn = none) (hv2 : bootBuiltins tn = some (.type c.nm)) (hn2 : tn ≠ "__name__" := by decide) (hd2 : (tn == ("__debug__" : Str)) = false := by decide)
    (hs : starEach [e, .Name tn p2] X.env = (false, eval e X.env) :: starEach [.Name tn p2] X.env := by rfl) (hpl : (backTo pos (starEach [.Name tn p2] X.env)).any (·.1) = false := by rfl) :
    FE T X (.Call (.Name "isinstance" p) [e, .Name tn p2] [] pos) (eUn (oIsB c) f) := by
  intro pins s st H Q I h
  refine pe_callB (call_isI c.nm) hg hm boot_isinstance (pa_cons he (pa_cons (pe_bltn hg2 hm2 hv2 (v := .ty c.nm) rfl hn2 hd2) pa_nil) hs) (by decide) (by decide) hs hpl pins s st H Q I ?_
  obtain ⟨μ, ρ, σ, hE, hr, hp⟩ := h
  refine ⟨μ, ρ, σ, hE, hr, hp.bind fun x σ1 μ1 v H1 _ e1 r1 p1 q1 => ?_⟩
  unfold oIsB at q1
  cases eb : isBT σ1 c x with
  | none => rw [eb] at q1; exact q1.elim
  | some b =>
    rw [eb] at q1
    obtain ⟨t, h1, h2⟩ := ty_of (X := X) r1 p1 eb
    exact ⟨v, t, b, rfl, h1, h2, zad.here q1 r1 (by rw [Rep])⟩
end
end L4
namespace L4
open PySem PySem.Spec PyProof.Rows L2
def sNil : Ev -> M Fl := fun ρ => ret (.nx ρ)
def seqK (h : Ev -> M Fl) : Fl -> M Fl
  | .nx ρ' => h ρ'
  | .rt d => ret (.rt d)
  | .bk ρ' => ret (.bk ρ')
  | .ct ρ' => ret (.ct ρ')
  | .xc ρ' x => ret (.xc ρ' x)
def zct (g h : Ev -> M Fl) : Ev -> M Fl := fun ρ => bnd (g ρ) (seqK h)
def retK : D -> M Fl := fun d => ret (.rt d)
def zcs (f : Ev -> M D) : Ev -> M Fl := fun ρ => xs ρ (f ρ) retK
def expK (ρ : Ev) : D -> M Fl := fun _ => ret (.nx ρ)
def sExp (f : Ev -> M D) : Ev -> M Fl := fun ρ => xs ρ (f ρ) (expK ρ)
def setK (i : Nat) (ρ : Ev) : D -> M Fl := fun d => ret (.nx (ρ.set i (some d)))
def sSet (i : Nat) (f : Ev -> M D) : Ev -> M Fl := fun ρ => xs ρ (f ρ) (setK i ρ)
def sIf (t : Ev -> M Bool) (a b : Ev -> M Fl) : Ev -> M Fl := fun ρ => xs ρ (t ρ) (ifK (a ρ) (b ρ))
section
variable {T : Tb} {X : Cx} {st' : Stmt} {rest : List Stmt} {g h : Ev -> M Fl} {e : Expr} {f : Ev -> M D} {pos : Pos}
theorem zbp : FSs T X [] sNil := by
  intro pins s st H D I hw
  obtain ⟨μ, ρ, σ, hE, hr, hp⟩ := hw
  exact pss_nil pins s st H D I (zad.here (g := Gl2.nx st) hp hr hE)
theorem seq_end {μ : List Addr} {H : Hp} {σ : Sto} {fl : Fl} {gl : Gl2} {D : Ends} {N : St -> Hp -> Prop} (r : Rel T μ H σ) (q : RFl T μ H fl gl) (k : Fl -> M Fl)
    (hn : ∀ ρ, fl = .nx ρ -> ∀ st, gl = .nx st -> ERep T μ H ρ st -> N st H) (ho : (∀ ρ, fl ≠ .nx ρ) -> zad T EN (RFl T) μ H (.ok fl σ) (EndQ X D)) : EndQ X { D with nx := N } gl H := by
  cases fl with
  | nx ρ => cases gl with
    | nx st => exact hn ρ rfl st rfl q
    | _ => exact q.elim
  | rt d => cases gl with
    | rt v => have z := zad.here (g := Gl2.rt v) (ho fun _ z => by cases z) r q; exact z
    | _ => exact q.elim
  | bk ρ => cases gl with
    | bk v => have z := zad.here (g := Gl2.bk v) (ho fun _ z => by cases z) r q; exact z
    | _ => exact q.elim
  | ct ρ => cases gl with
    | ct v => have z := zad.here (g := Gl2.ct v) (ho fun _ z => by cases z) r q; exact z
    | _ => exact q.elim
  | xc ρ x => cases gl with
    | xc v c => have z := zad.here (g := Gl2.xc v c) (ho fun _ z => by cases z) r q; exact z
    | _ => exact q.elim
theorem zbo (h1 : FS T X st' g) (h2 : FSs T X rest h) : FSs T X (st' :: rest) (zct g h) := by
  intro pins s st H D I hw
  refine pss_cons h1 h2 pins s st H D I ?_
  obtain ⟨μ, ρ, σ, hE, hr, hp⟩ := hw
  refine ⟨μ, ρ, σ, hE, hr, hp.bind fun fl σ1 μ1 gl H1 _ e1 r1 q1 p1 => ?_⟩
  refine seq_end (X := X) r1 q1 (fun _ => bad) (fun ρ' ef st1 eg he => ?_) (fun hn => ?_)
  · subst ef
    exact ⟨μ1, ρ', σ1, he, r1, p1⟩
  · cases fl with
    | nx ρ' => exact (hn ρ' rfl).elim
    | _ => exact p1
theorem zbq (h1 : FS T X st' g) : FSs T X [st'] g := pss_one h1
theorem zbm (he : FE T X e f) : FS T X (.Return (some e) pos) (zcs f) := by
  intro pins s st H D I hw
  refine ps_ret he pins s st H D I ?_
  obtain ⟨μ, ρ, σ, hE, hr, hp⟩ := hw
  exact ⟨μ, ρ, σ, hE, hr, hp.xs hE fun d σ1 μ1 v H1 _ e1 r1 q1 p1 => zad.here (g := Gl2.rt v) p1 r1 q1⟩
theorem zbk (he : FE T X e f) (hs : swapsWith e none pos.line X.env = pure false := by rfl) : FS T X (.Expr e pos) (sExp f) := by
  intro pins s st H D I hw
  refine ps_expr he hs pins s st H D I ?_
  obtain ⟨μ, ρ, σ, hE, hr, hp⟩ := hw
  exact ⟨μ, ρ, σ, hE, hr, hp.xs hE fun d σ1 μ1 v H1 _ e1 r1 q1 p1 => zad.here (g := Gl2.nx st) p1 r1 (hE.mono e1)⟩
theorem zbn {i : Nat} {x : Str} {pos' : Pos} (hN : X.N.Nodup) (hi : X.N[i]? = some x) (hx : Loc X.env.scope x) (he : FE T X e f) (hs : swapsWith e (some (.Name x pos')) pos.line X.env = pure false := by rfl) (hf : X.fn x = true \/ X.env.scope.names.lookup x = some .local := by first | exact .inl rfl | exact .inr rfl | assumption) :
    FS T X (.Assign [.Name x pos'] e pos) (sSet i f) := by
  intro pins s st H D I hw
  refine ps_set hN hi hx he hs hf pins s st H D I ?_
  obtain ⟨μ, ρ, σ, hE, hr, hp⟩ := hw
  exact ⟨μ, ρ, σ, hE, hr, hp.xs hE fun d σ1 μ1 v H1 _ e1 r1 q1 p1 => zad.here (g := Gl2.nx (st.set i (some v))) p1 r1 ((hE.mono e1).set i q1)⟩
theorem zbl {c : Expr} {a b : List Stmt} {tc : Ev -> M Bool} {ga gb : Ev -> M Fl} (hc : FT T X c tc) (ha : FSs T X a ga) (hb : FSs T X b gb) : FS T X (.If c a b pos) (sIf tc ga gb) := by
  intro pins s st H D I hw
  refine ps_if hc ha hb pins s st H D I ?_
  obtain ⟨μ, ρ, σ, hE, hr, hp⟩ := hw
  refine ⟨μ, ρ, σ, hE, hr, hp.xs hE fun c σ1 μ1 v H1 _ e1 r1 q1 p1 => ?_⟩
  cases q1
  cases c with
  | true => unfold ifK at p1; rw [if_pos rfl] at p1 ⊢; exact ⟨μ1, ρ, σ1, hE.mono e1, r1, p1⟩
  | false => unfold ifK at p1; rw [if_neg Bool.false_ne_true] at p1 ⊢; exact ⟨μ1, ρ, σ1, hE.mono e1, r1, p1⟩
def gD (T : Tb) (tg : D -> Ev -> Option Ev) : TG := fun v st H Q => ∃ μ σ ρ d ρ', ERep T μ H ρ st /\ Rel T μ H σ /\ Rep T μ H d v /\ tg d ρ = some ρ' /\ ∀ st', ERep T μ H ρ' st' -> Q st' H
def gsD (T : Tb) (tg : List D -> Ev -> Option Ev) : TGs := fun vs st H Q => ∃ μ σ ρ ds ρ', ERep T μ H ρ st /\ Rel T μ H σ /\ zaf T μ H ds vs /\ tg ds ρ = some ρ' /\ ∀ st', ERep T μ H ρ' st' -> Q st' H
abbrev FG (T : Tb) (X : Cx) (t : Expr) (tg : D -> Ev -> Option Ev) : Prop := PG X t (gD T tg)
abbrev FGs (T : Tb) (X : Cx) (ts : List Expr) (tg : List D -> Ev -> Option Ev) : Prop := PGs X ts (gsD T tg)
def tgN (i : Nat) : D -> Ev -> Option Ev := fun d ρ => some (ρ.set i (some d))
def tgNil : List D -> Ev -> Option Ev
  | [], ρ => some ρ
  | _ :: _, _ => none
def tgCons (t : D -> Ev -> Option Ev) (u : List D -> Ev -> Option Ev) : List D -> Ev -> Option Ev
  | [], _ => none
  | d :: ds, ρ => (t d ρ).bind fun ρ' => u ds ρ'
def tgT (n : Nat) (t : List D -> Ev -> Option Ev) : D -> Ev -> Option Ev
  | .tup ds, ρ => if ds.length = n then t ds ρ else none
  | _, _ => none
theorem zbg {i : Nat} {x : Str} (hN : X.N.Nodup) (hi : X.N[i]? = some x) (hx : Loc X.env.scope x) (hf : X.fn x = true \/ X.env.scope.names.lookup x = some .local := by first | exact .inl rfl | exact .inr rfl | assumption) : FG T X (.Name x pos) (tgN i) := by
  intro pins s st H v u Q I r h
  obtain ⟨μ, σ, ρ, d, ρ', hE, hr, hd, ht, hq⟩ := h
  cases ht
  exact pg_name hN hi hx hf pins s st H v u Q I r (hq _ (hE.set i hd))
theorem fgs_nil : FGs T X [] tgNil := by
  intro pins s st H vs us Q I r h
  obtain ⟨μ, σ, ρ, ds, ρ', hE, hr, hd, ht, hq⟩ := h
  cases ds with
  | nil => cases ht; rw [zaf] at hd; subst hd; exact pgs_nil pins s st H [] us Q I r ⟨rfl, hq _ hE⟩
  | cons d ds => cases ht
theorem fgs_cons {es : List Expr} {t : D -> Ev -> Option Ev} {u : List D -> Ev -> Option Ev} (h1 : FG T X e t) (h2 : FGs T X es u)
    (hs : (assignEach (e :: es) X.env).map (·.2) = assign e X.env :: (assignEach es X.env).map (·.2) := by rfl) : FGs T X (e :: es) (tgCons t u) := by
  intro pins s st H vs us Q I r h
  obtain ⟨μ, σ, ρ, ds, ρ', hE, hr, hd, ht, hq⟩ := h
  cases ds with
  | nil => cases ht
  | cons d ds =>
    rw [zaf] at hd
    obtain ⟨v, w, rfl, hd1, hd2⟩ := hd
    obtain ⟨ρ1, e1, e2⟩ := Option.bind_eq_some_iff.mp ht
    refine pgs_cons h1 h2 hs pins s st H (v :: w) us Q I r ⟨v, w, rfl, μ, σ, ρ, d, ρ1, hE, hr, hd1, e1, fun st1 hE1 => ?_⟩
    exact ⟨μ, σ, ρ1, ds, ρ', hE1, hr, hd2, e2, hq⟩
theorem fg_tup {es : List Expr} {k : Nat} {t : List D -> Ev -> Option Ev} {n : Nat} (hc : X.calm = true) (h : FGs T X es t)
    (hn : (assignEach es X.env).length = n := by rfl) (hst : (assignEach es X.env).findIdx? (·.1) = none := by rfl) : FG T X (.Tuple es k pos) (tgT n t) := by
  intro pins s st H v u Q I r hw
  obtain ⟨μ, σ, ρ, d, ρ', hE, hr, hd, ht, hq⟩ := hw
  cases d with
  | tup ds =>
    have hd0 := hd
    rw [Rep] at hd
    obtain ⟨p, vs, rfl, h1, h2⟩ := hd
    unfold tgT at ht; dsimp only at ht
    by_cases hl : ds.length = n
    · rw [if_pos hl] at ht
      exact pg_tup hc h hn hst pins s st H (.ref p) u Q I r ⟨p, vs, rfl, SqT.of h1, by rw [<- h2.length]; exact hl, μ, σ, ρ, ds, ρ', hE, hr, h2, ht, hq⟩
    · rw [if_neg hl] at ht; cases ht
  | _ => cases ht
def asgK (tg : D -> Ev -> Option Ev) (ρ : Ev) (d : D) : M Fl := match tg d ρ with
  | some ρ' => ret (.nx ρ')
  | none => bad
def sAsg (f : Ev -> M D) (tg : D -> Ev -> Option Ev) : Ev -> M Fl := fun ρ => xs ρ (f ρ) (asgK tg ρ)
def oSetL (x i d : D) : M Unit := fun σ => match x, i with
  | .ref n, .int k => (match lstAt σ n with
    | some xs => (match ixN xs.length k with
      | some j => .ok () (σ.set n (.lst (xs.set j d)))
      | none => .bad)
    | none => .bad)
  | _, _ => .bad
def setL3 (ρ : Ev) (d x i : D) : M Fl := fun σ => match oSetL x i d σ with
  | .ok _ σ' => .ok (.nx ρ) σ'
  | _ => .bad
def setL2 (ρ : Ev) (fi : Ev -> M D) (d x : D) : M Fl := xs ρ (fi ρ) (setL3 ρ d x)
def setL1 (ρ : Ev) (fo fi : Ev -> M D) (d : D) : M Fl := xs ρ (fo ρ) (setL2 ρ fi d)
def sSetL (f fo fi : Ev -> M D) : Ev -> M Fl := fun ρ => xs ρ (f ρ) (setL1 ρ fo fi)
theorem fs_setL {o i : Expr} {fo fi : Ev -> M D} {pos' : Pos} (he : FE T X e f) (ho : FE T X o fo) (hi : FE T X i fi)
    (ha : ∀ v, assign (.Subscript o i pos') X.env v = (do
      let ov <- holding [v] (eval o X.env)
      let iv <- holding [v, ov] (eval i X.env)
      standAt pos'
      holding [v, ov, iv] (setItem ov iv v)
      release [v, ov, iv] []) := by intro _; rfl)
    (hs : swapsWithSole [.Subscript o i pos'] e pos.line X.env = pure false := by rfl) (hw : swappedStores [.Subscript o i pos'] e X.env = pure none := by rfl)
    (h1 : (assignEach [.Subscript o i pos'] X.env).map (·.2) = [assign (.Subscript o i pos') X.env] := by rfl) : FS T X (.Assign [.Subscript o i pos'] e pos) (sSetL f fo fi) := by
  intro pins s st H D I hq
  refine ps_asg he (pg_sub ho hi set_list ha) hs hw h1 pins s st H D I ?_
  obtain ⟨μ, ρ, σ, hE, hr, hp⟩ := hq
  refine ⟨μ, ρ, σ, hE, hr, hp.xs hE fun d σ1 μ1 v H1 _ e1 r1 q1 p1 => ?_⟩
  refine ⟨μ1, ρ, σ1, hE.mono e1, r1, p1.xs (hE.mono e1) fun x σ2 μ2 vo H2 _ e2 r2 q2 p2 => ?_⟩
  refine ⟨μ2, ρ, σ2, (hE.mono e1).mono e2, r2, p2.xs ((hE.mono e1).mono e2) fun k σ3 μ3 vi H3 _ e3 r3 q3 p3 => ?_⟩
  have hd := Rep.mono e3 _ _ (Rep.mono e2 _ _ q1)
  have hx := Rep.mono e3 _ _ q2
  unfold setL3 oSetL at p3
  cases x with
  | ref n =>
    cases k with
    | int k =>
      dsimp only at p3
      cases el : lstAt σ3 n with
      | none => rw [el] at p3; exact p3.elim
      | some xs =>
        rw [el] at p3
        dsimp only at p3
        cases ej : ixN xs.length k with
        | none => rw [ej] at p3; exact p3.elim
        | some j =>
          rw [ej] at p3
          obtain ⟨a, vs, rfl, hn, h1, h2⟩ := r3.lst hx el
          have wr := r3.write (o := .lst (vs.set j v)) (ob := .lst (xs.set j d)) hn ⟨_, upd_same, by
            have ex : Ext μ3 H3 μ3 (upd H3 a (.lst (vs.set j v))) := ext_write (List.mem_of_getElem? hn) h1 (fun _ z => by cases z) (fun _ _ z => by cases z)
            exact zaf.set (Rep.mono ex _ _ hd) j (zaf.mono ex _ _ h2)⟩
          exact ⟨a, vs, k, j, rfl, zbv q3, h1, by rw [<- h2.length]; exact ej, p3 _ (.nx st) _ wr.1 wr.2 (((hE.mono e1).mono e2).mono e3 |>.mono wr.1)⟩
    | _ => exact p3.elim
  | _ => exact p3.elim
end
end L4
namespace L4
open PySem PySem.Spec PyProof.Rows L2
inductive Src where
  | seq (ds : List D)
  | lref (n : Nat)
def Src.nx : Src -> Nat -> Sto -> Option (Option D)
  | .seq ds, i, _ => some ds[i]?
  | .lref n, i, σ => (lstAt σ n).map fun xs => xs[i]?
def SrcOk (T : Tb) (μ0 : List Addr) (H0 : Hp) (src : Src) (J : It) : Prop := ∀ μ H σ i, Ext μ0 H0 μ H -> Rel T μ H σ -> match src.nx i σ with
  | none => True
  | some none => J.stop i H
  | some (some d) => J.go i H /\ ∀ x H', J.yld i H x H' -> H' = H /\ Rep T μ H d x
def tI (T : Tb) (X : Cx) (f : Ev -> M Src) : TI := fun st H R => ∃ μ ρ σ, ERep T μ H ρ st /\ Rel T μ H σ /\ zad T (XE X st) (SrcOk T) μ H (f ρ σ) R
abbrev FI (T : Tb) (X : Cx) (tg iter : Expr) (f : Ev -> M Src) : Prop := PI X tg iter (tI T X f)
def zcr (n : Nat) : List D := (List.range n).map fun (i : Nat) => D.int (i : Int)
def seqK2 (d : D) : M Src := fun σ => match d with
  | .tup ds => .ok (.seq ds) σ
  | .lst ds => .ok (.seq ds) σ
  | .scr ns => .ok (.seq (ns.map D.int)) σ
  | .ref n => (match lstAt σ n with
    | some _ => .ok (.lref n) σ
    | none => .bad)
  | _ => .bad
def srcS (f : Ev -> M D) : Ev -> M Src := fun ρ => bnd (f ρ) seqK2
noncomputable def small62 (j : Int) : Bool := hide (decide (-(2 ^ 62) <= j) && decide (j < 2 ^ 62))
noncomputable def rngK (d : D) : M Src := fun σ => match d with
  | .int j => if small62 j = true then .ok (.seq (zcr j.toNat)) σ else .bad
  | _ => .bad
noncomputable def srcR (f : Ev -> M D) : Ev -> M Src := fun ρ => bnd (f ρ) rngK
section
variable {T : Tb} {X : Cx} {tg iter : Expr} {f : Ev -> M D}
def iSeq (K : PySem.W.Frag) (tl : TE) : TI := fun σ H R => tl σ H fun x H1 => ∃ a, x = .ref a /\ (((∃ xs, SqL K H1 a xs) /\ R (Itl K a) H1) \/ ((∃ xs, SqT K H1 a xs) /\ R (Itt K a) H1))
theorem pi_seq {l : Expr} {tl : TE} (hl : PE X l tl) : PI X tg l (iSeq X.K tl) := by
  intro pins s σ H R I h
  refine thn (hl pins s σ H _ I h) fun v s1 ⟨x, H1, I1, r1, q1⟩ => ?_
  obtain ⟨a, e, q1⟩ := q1
  subst e
  cases r1
  rcases q1 with ⟨⟨xs, hq⟩, q⟩ | ⟨⟨xs, hq⟩, q⟩
  · obtain ⟨its, rv, p, hz⟩ := I1.list hq
    refine wpAny_pyIter_list p.isList ?_
    refine ⟨s1.heap.objs.size, [s1.heap.objs.size], _, _, H1, rfl, I1.kept (t' := s1.toks) fun b o e => Heap.get?_push_of_some _ e, turn_list a _, ⟨_, Heap.get?_push_size _ rfl, rfl, rfl⟩, fun b hb => ?_, q⟩
    have e : b = s1.heap.objs.size := by simpa using hb
    subst e
    exact I1.fpOk (Nat.le_refl _) (I1.hok.fresh (Nat.le_refl _))
  · obtain ⟨its, rv, p, hz⟩ := I1.tuple hq
    refine wpAny_pyIter_tuple (show s1.heap.IsTuple a its.toArray from p) ?_
    refine ⟨s1.heap.objs.size, [s1.heap.objs.size], _, _, H1, rfl, I1.kept (t' := s1.toks) fun b o e => Heap.get?_push_of_some _ e, turn_tuple a _, ⟨_, Heap.get?_push_size _ rfl, rfl, rfl⟩, fun b hb => ?_, q⟩
    have e : b = s1.heap.objs.size := by simpa using hb
    subst e
    exact I1.fpOk (Nat.le_refl _) (I1.hok.fresh (Nat.le_refl _))
theorem src_list {μ1 : List Addr} {H1 : Hp} {a : Addr} {ds : List D} {K : PySem.W.Frag} (h : ∀ μ2 H2, Ext μ1 H1 μ2 H2 -> ∃ vs, SqL K H2 a vs /\ zaf T μ2 H2 ds vs) : SrcOk T μ1 H1 (.seq ds) (Itl K a) := by
  intro μ2 H2 σ2 i ex r2
  obtain ⟨vs, h3, h4⟩ := h μ2 H2 ex
  show match some ds[i]? with | none => True | some none => _ | some (some d) => _
  cases e : ds[i]? with
  | none => exact ⟨vs, h3, by rw [<- h4.length]; exact List.getElem?_eq_none_iff.mp e⟩
  | some d =>
    obtain ⟨v, hv1, hv2⟩ := h4.get e
    refine ⟨⟨vs, v, h3, hv1⟩, fun x H' y => ?_⟩
    obtain ⟨rfl, y⟩ := y
    have := y vs h3
    rw [hv1] at this; cases this
    exact ⟨rfl, hv2⟩
theorem src_tup {μ1 : List Addr} {H1 : Hp} {a : Addr} {ds : List D} {K : PySem.W.Frag} (h : ∀ μ2 H2, Ext μ1 H1 μ2 H2 -> ∃ vs, SqT K H2 a vs /\ zaf T μ2 H2 ds vs) : SrcOk T μ1 H1 (.seq ds) (Itt K a) := by
  intro μ2 H2 σ2 i ex r2
  obtain ⟨vs, h3, h4⟩ := h μ2 H2 ex
  show match some ds[i]? with | none => True | some none => _ | some (some d) => _
  cases e : ds[i]? with
  | none => exact ⟨vs, h3, by rw [<- h4.length]; exact List.getElem?_eq_none_iff.mp e⟩
  | some d =>
    obtain ⟨v, hv1, hv2⟩ := h4.get e
    refine ⟨⟨vs, v, h3, hv1⟩, fun x H' y => ?_⟩
    obtain ⟨rfl, y⟩ := y
    have := y vs h3
    rw [hv1] at this; cases this
    exact ⟨rfl, hv2⟩
theorem fi_seq (hK : T.K = X.K) (h : FE T X iter f) : FI T X tg iter (srcS f) := by
  intro pins s st H R I hw
  refine pi_seq h pins s st H R I ?_
  obtain ⟨μ, ρ, σ, hE, hr, hp⟩ := hw
  refine ⟨μ, ρ, σ, hE, hr, hp.bind fun d σ1 μ1 v H1 _ e1 r1 q1 p1 => ?_⟩
  cases d with
  | tup ds =>
    rw [Rep] at q1
    obtain ⟨p, vs, rfl, h1, h2⟩ := q1
    exact ⟨p, rfl, .inr ⟨⟨vs, SqT.of h1⟩, zad.here (R := SrcOk T) p1 r1 (src_tup fun μ2 H2 ex => ⟨vs, SqT.of (ex.tup _ _ h1), zaf.mono ex _ _ h2⟩)⟩⟩
  | lst ds =>
    rw [Rep] at q1
    obtain ⟨p, vs, rfl, hn, h1, h2⟩ := q1
    exact ⟨p, rfl, .inl ⟨⟨vs, SqL.of h1⟩, zad.here (R := SrcOk T) p1 r1 (src_list fun μ2 H2 ex => ⟨vs, SqL.of (ex.keep _ _ h1 hn).1, zaf.mono ex _ _ h2⟩)⟩⟩
  | scr ns =>
    rw [Rep] at q1
    obtain ⟨p, rfl, h1⟩ := q1
    have hsc : ∀ μ2 H2, Ext μ1 H1 μ2 H2 -> SqL X.K H2 p (ns.map V.int) := fun μ2 H2 ex => by
      have h2 : Rep T μ2 H2 (.scr ns) (.ref p) := Rep.mono ex _ _ (by rw [Rep]; exact ⟨p, rfl, h1⟩)
      rw [Rep] at h2
      obtain ⟨p', e', h3⟩ := h2
      cases e'
      rw [<- hK]; exact h3.seq
    exact ⟨p, rfl, .inl ⟨⟨_, hsc _ _ (Ext.refl _ _)⟩, zad.here (R := SrcOk T) p1 r1 (src_list fun μ2 H2 ex => ⟨_, hsc μ2 H2 ex, repl_ints ns⟩)⟩⟩
  | ref n =>
    unfold seqK2 at p1
    dsimp only at p1
    cases el0 : lstAt σ1 n with
    | none => rw [el0] at p1; exact p1.elim
    | some xs =>
      rw [el0] at p1
      obtain ⟨a, vs, rfl, _, h1, h2⟩ := r1.lst q1 el0
      refine ⟨a, rfl, .inl ⟨⟨vs, SqL.of h1⟩, zad.here (R := SrcOk T) p1 r1 fun μ2 H2 σ2 i ex r2 => ?_⟩⟩
      show match (lstAt σ2 n).map (fun xs => xs[i]?) with | none => True | some none => _ | some (some d) => _
      cases el : lstAt σ2 n with
      | none => trivial
      | some ys =>
        obtain ⟨a', ws, ea, _, h3, h4⟩ := r2.lst (Rep.mono ex _ _ q1) el
        cases ea
        show match some (ys[i]?) with | none => True | some none => _ | some (some d) => _
        cases e : ys[i]? with
        | none => exact ⟨ws, SqL.of h3, by rw [<- h4.length]; exact List.getElem?_eq_none_iff.mp e⟩
        | some d =>
          obtain ⟨v, hv1, hv2⟩ := h4.get e
          refine ⟨⟨ws, v, SqL.of h3, hv1⟩, fun x H' y => ?_⟩
          obtain ⟨rfl, y⟩ := y
          have := y ws (SqL.of h3)
          rw [hv1] at this; cases this
          exact ⟨rfl, hv2⟩
  | _ => exact p1.elim
theorem rangeD_get {n i : Nat} (h : i < n) : (zcr n)[i]? = some (.int i) := by simp [zcr, h]
theorem rangeD_len (n : Nat) : (zcr n).length = n := by simp [zcr]
theorem fi_range {a : Expr} {p pos : Pos} (hgl : Gl X "range") (hm : X.mg "range" = none) (ha : FE T X a f) (hst : starEach [a] X.env = [(false, eval a X.env)] := by rfl) : FI T X tg (.Call (.Name "range" p) [a] [] pos) (srcR f) := by
  intro pins s st H R I hw
  refine pi_range1 hgl hm (pa_cons ha pa_nil hst) hst pins s st H R I ?_
  obtain ⟨μ, ρ, σ, hE, hr, hp⟩ := hw
  refine ⟨μ, ρ, σ, hE, hr, hp.bind fun d σ1 μ1 v H1 _ e1 r1 q1 p1 => ?_⟩
  cases d with
  | int j =>
    rw [Rep] at q1
    subst q1
    unfold rngK at p1
    dsimp only at p1
    by_cases hj : small62 j = true
    · rw [if_pos hj] at p1
      simp only [small62, zbt, Bool.and_eq_true, decide_eq_true_eq] at hj
      refine ⟨j, rfl, hj.1, hj.2, zad.here (R := SrcOk T) p1 r1 fun μ2 H2 σ2 i ex r2 => ?_⟩
      show match some (zcr j.toNat)[i]? with | none => True | some none => _ | some (some d) => _
      by_cases hi : i < j.toNat
      · rw [rangeD_get hi]
        refine ⟨hi, fun x H' y => ?_⟩
        obtain ⟨rfl, rfl⟩ := y
        exact ⟨rfl, by rw [Rep, Int.zero_add]⟩
      · rw [List.getElem?_eq_none_iff.mpr (by rw [rangeD_len]; omega)]
        exact Nat.not_lt.mp hi
    · rw [if_neg hj] at p1; exact p1.elim
  | _ => exact p1.elim
end
def loopK (k : Ev -> M Fl) : Fl -> M Fl
  | .nx ρ2 => k ρ2
  | .ct ρ2 => k ρ2
  | .bk ρ2 => ret (.nx ρ2)
  | .rt d => ret (.rt d)
  | .xc ρ x => ret (.xc ρ x)
def loop (tg : D -> Ev -> Option Ev) (body : Ev -> M Fl) : List D -> Ev -> M Fl
  | [], ρ => ret (.nx ρ)
  | d :: ds, ρ => match tg d ρ with
    | none => bad
    | some ρ1 => bnd (body ρ1) (loopK (loop tg body ds))
def loopL (tg : D -> Ev -> Option Ev) (body : Ev -> M Fl) (n : Nat) : Nat -> Nat -> Ev -> M Fl
  | 0, _, _ => bad
  | k + 1, i, ρ => fun σ => match lstAt σ n with
    | none => .bad
    | some xs => match xs[i]? with
      | none => .ok (.nx ρ) σ
      | some d => match tg d ρ with
        | none => .bad
        | some ρ1 => bnd (body ρ1) (loopK (loopL tg body n k (i + 1))) σ
def forK (tg : D -> Ev -> Option Ev) (body : Ev -> M Fl) (ρ : Ev) : Src -> M Fl
  | .seq ds => loop tg body ds ρ
  | .lref n => loopL tg body n 1001 0 ρ
def sFor (src : Ev -> M Src) (tg : D -> Ev -> Option Ev) (body : Ev -> M Fl) : Ev -> M Fl := fun ρ => xs ρ (src ρ) (forK tg body ρ)
section
variable {T : Tb} {X : Cx}
theorem turn_end {μ1 : List Addr} {H1 : Hp} {σ1 : Sto} {fl : Fl} {gl : Gl2} {D : Ends} {k : Ev -> M Fl} {N : St -> Hp -> Prop} (r1 : Rel T μ1 H1 σ1) (q1 : RFl T μ1 H1 fl gl) (p1 : zad T EN (RFl T) μ1 H1 (loopK k fl σ1) (EndQ X D))
    (hN : ∀ ρ2 st2, ERep T μ1 H1 ρ2 st2 -> zad T EN (RFl T) μ1 H1 (k ρ2 σ1) (EndQ X D) -> N st2 H1) : EndQ X { D with nx := N, ct := N, bk := D.nx } gl H1 := by
  cases fl with
  | nx ρ2 => cases gl with
    | nx st2 => exact hN ρ2 st2 q1 p1
    | _ => exact q1.elim
  | ct ρ2 => cases gl with
    | ct st2 => exact hN ρ2 st2 q1 p1
    | _ => exact q1.elim
  | bk ρ2 => cases gl with
    | bk st2 => have z : EndQ X D (Gl2.nx st2) H1 := zad.here (g := Gl2.nx st2) (d := Fl.nx ρ2) p1 r1 q1; exact z
    | _ => exact q1.elim
  | rt d2 => cases gl with
    | rt v2 => have z : EndQ X D (Gl2.rt v2) H1 := zad.here (g := Gl2.rt v2) (d := Fl.rt d2) p1 r1 q1; exact z
    | _ => exact q1.elim
  | xc ρ2 x => cases gl with
    | xc st2 c => have z : EndQ X D (Gl2.xc st2 c) H1 := zad.here (g := Gl2.xc st2 c) (d := Fl.xc ρ2 x) p1 r1 q1; exact z
    | _ => exact q1.elim
variable {tgt iter : Expr} {body : List Stmt} {src : Ev -> M Src} {t : D -> Ev -> Option Ev} {g : Ev -> M Fl} {pos : Pos}
theorem fs_for (hp : PassesOwn (model X.prog X.w) X.A X.env X.xe) (hc : X.calm = true) (hi : FI T X tgt iter src) (hg : FG T X tgt t) (hb : FSs T X body g)
    (hs : ∀ x, foldedSetIterable iter X.env x = pure x := by intro _; rfl) : FS T X (.For tgt iter body [] pos) (sFor src t g) := by
  intro pins s st H D I hq
  refine ps_for hp hc hi hg hb hs pins s st H D I ?_
  obtain ⟨μ, ρ, σ, hE, hr, hp⟩ := hq
  refine ⟨μ, ρ, σ, hE, hr, hp.xs hE fun src σ1 μ1 J H1 _ e1 r1 q1 p1 => ?_⟩
  cases src with
  | seq ds =>
    have p1' : zad T EN (RFl T) μ1 H1 (loop t g ds ρ σ1) (EndQ X D) := p1
    refine ⟨fun i m st2 H2 => m = ds.length - i /\ ∃ μ ρ σ, Ext μ1 H1 μ H2 /\ ERep T μ H2 ρ st2 /\ Rel T μ H2 σ /\ zad T EN (RFl T) μ H2 (loop t g (ds.drop i) ρ σ) (EndQ X D), ⟨ds.length, by simp, μ1, ρ, σ1, Ext.refl _ _, hE.mono e1, r1, by simpa using p1'⟩, ?_⟩
    rintro i m st2 H2 ⟨rfl, μ2, ρ2, σ2, ex, hE2, r2, p2⟩
    have so := q1 μ2 H2 σ2 i ex r2
    have so' : match (some ds[i]? : Option (Option L4.D)) with | none => True | some none => J.stop i H2 | some (some d) => J.go i H2 /\ ∀ x H', J.yld i H2 x H' -> H' = H2 /\ Rep T μ2 H2 d x := so
    cases ei : ds[i]? with
    | none =>
      rw [ei] at so'
      rw [List.drop_eq_nil_of_le (List.getElem?_eq_none_iff.mp ei)] at p2
      exact .inl ⟨so', zad.here (g := Gl2.nx st2) p2 r2 hE2⟩
    | some d =>
      rw [ei] at so'
      obtain ⟨hl, ed⟩ := List.getElem?_eq_some_iff.mp ei
      have hd : ds.drop i = d :: ds.drop (i + 1) := by rw [<- ed]; exact (List.drop_eq_getElem_cons hl)
      rw [hd] at p2
      unfold loop at p2
      refine .inr ⟨so'.1, fun st3 H3 => ∃ μ ρ σ, Ext μ1 H1 μ H3 /\ ERep T μ H3 ρ st3 /\ Rel T μ H3 σ /\ zad T EN (RFl T) μ H3 (loop t g (ds.drop (i + 1)) ρ σ) (EndQ X D), fun st3 H3 h => ⟨ds.length - (i + 1), by omega, rfl, h⟩, fun x H3 y => ?_⟩
      obtain ⟨rfl, hx⟩ := so'.2 x H3 y
      cases ht : t d ρ2 with
      | none => rw [ht] at p2; exact p2.elim
      | some ρ3 =>
        rw [ht] at p2
        exact ⟨μ2, σ2, ρ2, d, ρ3, hE2, r2, hx, ht, fun st3 hE3 => ⟨μ2, ρ3, σ2, hE3, r2, p2.bind fun fl σ4 μ4 gl H4 _ e4 r4 q4 p4 => turn_end r4 q4 p4 fun ρ5 st5 hE5 p5 => ⟨μ4, ρ5, σ4, ex.trans e4, hE5, r4, p5⟩⟩⟩
  | lref n =>
    have p1' : zad T EN (RFl T) μ1 H1 (loopL t g n 1001 0 ρ σ1) (EndQ X D) := p1
    refine ⟨fun i m st2 H2 => ∃ μ ρ σ, Ext μ1 H1 μ H2 /\ ERep T μ H2 ρ st2 /\ Rel T μ H2 σ /\ zad T EN (RFl T) μ H2 (loopL t g n m i ρ σ) (EndQ X D), ⟨1001, μ1, ρ, σ1, Ext.refl _ _, hE.mono e1, r1, p1'⟩, ?_⟩
    rintro i m st2 H2 ⟨μ2, ρ2, σ2, ex, hE2, r2, p2⟩
    cases m with
    | zero => exact p2.elim
    | succ m =>
      unfold loopL at p2
      have so := q1 μ2 H2 σ2 i ex r2
      have so' : match ((lstAt σ2 n).map fun xs => xs[i]? : Option (Option L4.D)) with | none => True | some none => J.stop i H2 | some (some d) => J.go i H2 /\ ∀ x H', J.yld i H2 x H' -> H' = H2 /\ Rep T μ2 H2 d x := so
      cases el : lstAt σ2 n with
      | none => simp only [el] at p2; exact p2.elim
      | some xs =>
        simp only [el] at p2 so'
        cases ei : xs[i]? with
        | none =>
          simp only [ei, Option.map_some] at p2 so'
          exact .inl ⟨so', zad.here (g := Gl2.nx st2) p2 r2 hE2⟩
        | some d =>
          simp only [ei, Option.map_some] at p2 so'
          refine .inr ⟨so'.1, fun st3 H3 => ∃ μ ρ σ, Ext μ1 H1 μ H3 /\ ERep T μ H3 ρ st3 /\ Rel T μ H3 σ /\ zad T EN (RFl T) μ H3 (loopL t g n m (i + 1) ρ σ) (EndQ X D), fun st3 H3 h => ⟨m, Nat.lt_succ_self _, h⟩, fun x H3 y => ?_⟩
          obtain ⟨rfl, hx⟩ := so'.2 x H3 y
          cases ht : t d ρ2 with
          | none => simp only [ht] at p2; exact p2.elim
          | some ρ3 =>
            simp only [ht] at p2
            exact ⟨μ2, σ2, ρ2, d, ρ3, hE2, r2, hx, ht, fun st3 hE3 => ⟨μ2, ρ3, σ2, hE3, r2, p2.bind fun fl σ4 μ4 gl H4 _ e4 r4 q4 p4 => turn_end r4 q4 p4 fun ρ5 st5 hE5 p5 => ⟨μ4, ρ5, σ4, ex.trans e4, hE5, r4, p5⟩⟩⟩
end
end L4
namespace L4
open PySem PySem.Spec PyProof.Rows L2
mutual
def cl : D -> Bool
  | .tup xs => clL xs
  | .lst xs => clL xs
  | .dic _ xs => clL xs
  | .obj _ _ xs => clL xs
  | .ref _ => false
  | .non => true
  | .bl _ => true
  | .int _ => true
  | .str _ => true
  | .scr _ => true
  | .exn _ => true
def clL : List D -> Bool
  | [] => true
  | d :: ds => cl d && clL ds
end
def fzL (f : D -> Option D) : List D -> Option (List D)
  | [] => some []
  | d :: ds => match f d, fzL f ds with
    | some x, some xs => some (x :: xs)
    | _, _ => none
def fz (k : Nat) (σ : Sto) : Nat -> D -> Option D
  | 0, d => if cl d = true then some d else match d with
    | .ref n => if n < k then some (.ref n) else none
    | _ => none
  | m + 1, d => if cl d = true then some d else match d with
    | .ref n => if n < k then some (.ref n) else match σ[n]? with
      | some (.lst xs) => (fzL (fz k σ m) xs).map .lst
      | some (.dic kvs) => (fzL (fz k σ m) (kvs.map (·.2))).map (.dic (kvs.map (·.1)))
      | some (.ins c fs) => (fzL (fz k σ m) (fs.map (·.2))).map (.obj c (fs.map (·.1)))
      | none => none
    | .tup xs => (fzL (fz k σ m) xs).map .tup
    | .lst xs => (fzL (fz k σ m) xs).map .lst
    | .dic ks xs => (fzL (fz k σ m) xs).map (.dic ks)
    | .obj c ns xs => (fzL (fz k σ m) xs).map (.obj c ns)
    | _ => none
open Classical in
noncomputable def frzO (σ : Sto) : Out D -> Out D
  | .ok d σ' => if σ'.take σ.length = σ then (match fz σ.length σ' 6 d with
    | some d' => .ok d' σ
    | none => .bad) else .bad
  | .ex x σ' => if σ'.take σ.length = σ then .ex x σ else .bad
  | .bad => .bad
noncomputable def frz (f : M D) : M D := fun σ => frzO σ (f σ)
section
variable {T : Tb} {μ μ' : List Addr} {H H' : Hp} {σ σ' : Sto}
mutual
theorem cl_down (e : ∃ r, μ' = μ ++ r) : ∀ (d : D) (v : V), cl d = true -> Rep T μ' H d v -> Rep T μ H d v
  | .non, v, _, h => by simpa [Rep] using h
  | .bl b, v, _, h => by simpa [Rep] using h
  | .int i, v, _, h => by simpa [Rep] using h
  | .str x, v, _, h => by simpa [Rep] using h
  | .tup ds, v, c, h => by
    rw [Rep] at h ⊢
    obtain ⟨p, vs, h1, h2, h3⟩ := h
    exact ⟨p, vs, h1, h2, clL_down e ds vs (by simpa [cl] using c) h3⟩
  | .scr ns, v, _, h => by rw [Rep] at h ⊢; exact h
  | .ref n, v, c, h => by simp [cl] at c
  | .lst ds, v, c, h => by
    rw [Rep] at h ⊢
    obtain ⟨a, vs, h1, h2, h3, h4⟩ := h
    exact ⟨a, vs, h1, fun z => h2 (by obtain ⟨r, rfl⟩ := e; exact List.mem_append_left _ z), h3, clL_down e ds vs (by simpa [cl] using c) h4⟩
  | .dic ks ds, v, c, h => by
    rw [Rep] at h ⊢
    obtain ⟨a, vs, h1, h2, h3, h5, h4⟩ := h
    exact ⟨a, vs, h1, fun z => h2 (by obtain ⟨r, rfl⟩ := e; exact List.mem_append_left _ z), h3, h5, clL_down e ds _ (by simpa [cl] using c) h4⟩
  | .obj k ns ds, v, c, h => by
    rw [Rep] at h ⊢
    obtain ⟨a, dx, vs, h1, h2, h3, h5, h4⟩ := h
    exact ⟨a, dx, vs, h1, fun z => h2 (by obtain ⟨r, rfl⟩ := e; exact List.mem_append_left _ z), h3, h5, clL_down e ds _ (by simpa [cl] using c) h4⟩
  | .exn k, v, _, h => by
    rw [Rep] at h ⊢
    obtain ⟨a, h1, h2, h3⟩ := h
    exact ⟨a, h1, fun z => h2 (by obtain ⟨r, rfl⟩ := e; exact List.mem_append_left _ z), h3⟩
theorem clL_down (e : ∃ r, μ' = μ ++ r) : ∀ (ds : List D) (vs : List V), clL ds = true -> zaf T μ' H ds vs -> zaf T μ H ds vs
  | [], vs, _, h => by simpa [zaf] using h
  | d :: ds, vs, c, h => by
    rw [zaf] at h ⊢
    obtain ⟨v, r, h1, h2, h3⟩ := h
    have c' : cl d = true /\ clL ds = true := by simpa [clL, Bool.and_eq_true] using c
    exact ⟨v, r, h1, cl_down e d v c'.1 h2, clL_down e ds r c'.2 h3⟩
end
mutual
theorem Rep.down (e : ∃ r, μ' = μ ++ r) : ∀ (d : D) (v0 v : V), Rep T μ H d v0 -> Rep T μ' H' d v -> Rep T μ H' d v
  | .non, v0, v, _, h => by simpa [Rep] using h
  | .bl b, v0, v, _, h => by simpa [Rep] using h
  | .int i, v0, v, _, h => by simpa [Rep] using h
  | .str x, v0, v, _, h => by simpa [Rep] using h
  | .tup ds, v0, v, c, h => by
    rw [Rep] at h c ⊢
    obtain ⟨p, vs, h1, h2, h3⟩ := h
    obtain ⟨p0, vs0, _, _, c3⟩ := c
    exact ⟨p, vs, h1, h2, zaf.down e ds vs0 vs c3 h3⟩
  | .scr ns, v0, v, _, h => by rw [Rep] at h ⊢; exact h
  | .ref n, v0, v, c, h => by
    rw [Rep] at h c ⊢
    obtain ⟨a, h1, h2⟩ := h
    obtain ⟨b, _, c2⟩ := c
    refine ⟨a, h1, ?_⟩
    obtain ⟨r, rfl⟩ := e
    rw [List.getElem?_append_left (List.getElem?_eq_some_iff.mp c2).1] at h2
    exact h2
  | .lst ds, v0, v, c, h => by
    rw [Rep] at h c ⊢
    obtain ⟨a, vs, h1, h2, h3, h4⟩ := h
    obtain ⟨_, vs0, _, _, _, c4⟩ := c
    exact ⟨a, vs, h1, fun z => h2 (by obtain ⟨r, rfl⟩ := e; exact List.mem_append_left _ z), h3, zaf.down e ds vs0 vs c4 h4⟩
  | .dic ks ds, v0, v, c, h => by
    rw [Rep] at h c ⊢
    obtain ⟨a, vs, h1, h2, h3, h5, h4⟩ := h
    obtain ⟨_, vs0, _, _, _, _, c4⟩ := c
    exact ⟨a, vs, h1, fun z => h2 (by obtain ⟨r, rfl⟩ := e; exact List.mem_append_left _ z), h3, h5, zaf.down e ds _ _ c4 h4⟩
  | .obj k ns ds, v0, v, c, h => by
    rw [Rep] at h c ⊢
    obtain ⟨a, dx, vs, h1, h2, h3, h5, h4⟩ := h
    obtain ⟨_, _, vs0, _, _, _, _, c4⟩ := c
    exact ⟨a, dx, vs, h1, fun z => h2 (by obtain ⟨r, rfl⟩ := e; exact List.mem_append_left _ z), h3, h5, zaf.down e ds _ _ c4 h4⟩
  | .exn k, v0, v, _, h => by
    rw [Rep] at h ⊢
    obtain ⟨a, h1, h2, h3⟩ := h
    exact ⟨a, h1, fun z => h2 (by obtain ⟨r, rfl⟩ := e; exact List.mem_append_left _ z), h3⟩
theorem zaf.down (e : ∃ r, μ' = μ ++ r) : ∀ (ds : List D) (vs0 vs : List V), zaf T μ H ds vs0 -> zaf T μ' H' ds vs -> zaf T μ H' ds vs
  | [], vs0, vs, _, h => by simpa [zaf] using h
  | d :: ds, vs0, vs, c, h => by
    rw [zaf] at h c ⊢
    obtain ⟨v, r, h1, h2, h3⟩ := h
    obtain ⟨v0, r0, _, c2, c3⟩ := c
    exact ⟨v, r, h1, Rep.down e d v0 v c2 h2, zaf.down e ds r0 r c3 h3⟩
end
theorem paired_down {α : Type} (e : ∃ r, μ' = μ ++ r) : ∀ {xs : List (α × D)} {ys zs : List (α × V)}, Paired (fun (p : α × D) (q : α × V) => p.1 = q.1 /\ Rep T μ H p.2 q.2) xs zs -> Paired (fun (p : α × D) (q : α × V) => p.1 = q.1 /\ Rep T μ' H' p.2 q.2) xs ys -> Paired (fun (p : α × D) (q : α × V) => p.1 = q.1 /\ Rep T μ H' p.2 q.2) xs ys
  | _, _, _, .nil, .nil => .nil
  | _, _, _, .cons a b, .cons c d => .cons ⟨c.1, Rep.down e _ _ _ a.2 c.2⟩ (paired_down e b d)
theorem ObR.down (e : ∃ r, μ' = μ ++ r) {a : Addr} : ∀ {o : Ob}, ObR T μ H a o -> ObR T μ' H' a o -> ObR T μ H' a o
  | .lst ds, ⟨_, _, c⟩, ⟨vs, h, r⟩ => ⟨vs, h, zaf.down e _ _ _ c r⟩
  | .dic kvs, ⟨_, _, c⟩, ⟨vs, h, r⟩ => ⟨vs, h, paired_down e c r⟩
  | .ins c fs, ⟨_, _, _, c'⟩, ⟨dx, vs, h, r⟩ => ⟨dx, vs, h, paired_down e c' r⟩
theorem Rel.down (r0 : Rel T μ H σ) (r : Rel T μ' H' σ') (e : Ext μ H μ' H') (ht : σ'.take σ.length = σ) : Rel T μ H' σ /\ Ext μ H μ H' := by
  refine ⟨⟨r0.len, r0.nd, fun n o h => ?_⟩, ⟨⟨[], by simp⟩, e.tup, e.frz, fun p o h n => ⟨(e.keep p o h n).1, n⟩⟩⟩
  obtain ⟨a, h1, h2⟩ := r0.obs n o h
  have h' : σ'[n]? = some o := by
    have hl := (List.getElem?_eq_some_iff.mp h).1
    rw [<- ht, List.getElem?_take_of_lt hl] at h
    exact h
  obtain ⟨b, h3, h4⟩ := r.obs n o h'
  have eb := e.get h1
  rw [h3] at eb; cases eb
  exact ⟨a, h1, h2.down e.pre h4⟩
theorem repl_pairs {α : Type} : ∀ {xs : List (α × D)} {ys : List (α × V)}, Paired (fun (p : α × D) (q : α × V) => p.1 = q.1 /\ Rep T μ H p.2 q.2) xs ys -> ys.map (·.1) = xs.map (·.1) /\ zaf T μ H (xs.map (·.2)) (ys.map (·.2))
  | _, _, .nil => ⟨rfl, zaf.nil⟩
  | _, _, .cons a b => by
    obtain ⟨h1, h2⟩ := repl_pairs b
    exact ⟨by simp [h1, a.1], zaf.cons a.2 h2⟩
theorem fzL_rep {f : D -> Option D} (hf : ∀ d d' v, f d = some d' -> Rep T μ' H d v -> Rep T μ H d' v) : ∀ (ds ds' : List D) (vs : List V), fzL f ds = some ds' -> zaf T μ' H ds vs -> zaf T μ H ds' vs
  | [], ds', vs, h, r => by cases h; simpa [zaf] using r
  | d :: ds, ds', vs, h, r => by
    unfold fzL at h
    cases e1 : f d with
    | none => rw [e1] at h; cases h
    | some x =>
      cases e2 : fzL f ds with
      | none => rw [e1, e2] at h; cases h
      | some xs =>
        rw [e1, e2] at h; cases h
        rw [zaf] at r
        obtain ⟨v, w, rfl, h2, h3⟩ := r
        exact zaf.cons (hf d x v e1 h2) (fzL_rep hf ds xs w e2 h3)
theorem fz_rep (e : ∃ r, μ' = μ ++ r) (r : Rel T μ' H σ') : ∀ (m : Nat) (d d' : D) (v : V), fz μ.length σ' m d = some d' -> Rep T μ' H d v -> Rep T μ H d' v := by
  have old : ∀ n v, n < μ.length -> Rep T μ' H (.ref n) v -> Rep T μ H (.ref n) v := fun n v hn h => by
    rw [Rep] at h ⊢
    obtain ⟨a, h1, h2⟩ := h
    obtain ⟨q, rfl⟩ := e
    rw [List.getElem?_append_left hn] at h2
    exact ⟨a, h1, h2⟩
  intro m
  induction m with
  | zero =>
    intro d d' v h hr
    unfold fz at h
    by_cases hc : cl d = true
    · rw [if_pos hc] at h; cases h; exact cl_down e _ _ hc hr
    · rw [if_neg hc] at h
      cases d with
      | ref n =>
        dsimp only at h
        by_cases hn : n < μ.length
        · rw [if_pos hn] at h; cases h; exact old n v hn hr
        · rw [if_neg hn] at h; cases h
      | _ => cases h
  | succ m ih =>
    intro d d' v h hr
    unfold fz at h
    by_cases hc : cl d = true
    · rw [if_pos hc] at h; cases h; exact cl_down e _ _ hc hr
    · rw [if_neg hc] at h
      have go := fzL_rep (T := T) (μ := μ) (μ' := μ') (H := H) (f := fz μ.length σ' m) (fun d d' v a b => ih d d' v a b)
      cases d with
      | ref n =>
        dsimp only at h
        by_cases hn : n < μ.length
        · rw [if_pos hn] at h; cases h; exact old n v hn hr
        · rw [if_neg hn] at h
          cases es : σ'[n]? with
          | none => rw [es] at h; cases h
          | some o =>
            rw [es] at h
            obtain ⟨a, rfl, ha, hob⟩ := r.at hr es
            have out : a ∉ μ := fun z => by
              obtain ⟨i, hi⟩ := List.getElem?_of_mem z
              obtain ⟨q, rfl⟩ := e
              have hl := (List.getElem?_eq_some_iff.mp hi).1
              have := nodup_at r.nd (i := i) (j := n) (by rw [List.getElem?_append_left hl]; exact hi) ha
              omega
            cases o with
            | lst xs =>
              obtain ⟨ys, h1, h2⟩ := Option.map_eq_some_iff.mp h
              subst h2
              obtain ⟨vs, h3, h4⟩ := hob
              rw [Rep]
              exact ⟨a, vs, rfl, out, h3, go xs ys vs h1 h4⟩
            | dic kvs =>
              obtain ⟨ys, h1, h2⟩ := Option.map_eq_some_iff.mp h
              subst h2
              obtain ⟨vs, h3, h4⟩ := hob
              obtain ⟨h5, h6⟩ := repl_pairs h4
              rw [Rep]
              exact ⟨a, vs, rfl, out, h3, h5, go _ ys _ h1 h6⟩
            | ins c fs =>
              obtain ⟨ys, h1, h2⟩ := Option.map_eq_some_iff.mp h
              subst h2
              obtain ⟨dx, vs, h3, h4⟩ := hob
              obtain ⟨h5, h6⟩ := repl_pairs h4
              rw [Rep]
              exact ⟨a, dx, vs, rfl, out, h3, h5, go _ ys _ h1 h6⟩
      | tup xs =>
        obtain ⟨ys, h1, h2⟩ := Option.map_eq_some_iff.mp h
        subst h2
        rw [Rep] at hr ⊢
        obtain ⟨p, vs, e1, e2, e3⟩ := hr
        exact ⟨p, vs, e1, e2, go xs ys vs h1 e3⟩
      | lst xs =>
        obtain ⟨ys, h1, h2⟩ := Option.map_eq_some_iff.mp h
        subst h2
        rw [Rep] at hr ⊢
        obtain ⟨p, vs, e1, e0, e2, e3⟩ := hr
        exact ⟨p, vs, e1, fun z => e0 (by obtain ⟨r, rfl⟩ := e; exact List.mem_append_left _ z), e2, go xs ys vs h1 e3⟩
      | dic ks xs =>
        obtain ⟨ys, h1, h2⟩ := Option.map_eq_some_iff.mp h
        subst h2
        rw [Rep] at hr ⊢
        obtain ⟨p, vs, e1, e0, e2, e4, e3⟩ := hr
        exact ⟨p, vs, e1, fun z => e0 (by obtain ⟨r, rfl⟩ := e; exact List.mem_append_left _ z), e2, e4, go xs ys _ h1 e3⟩
      | obj c ks xs =>
        obtain ⟨ys, h1, h2⟩ := Option.map_eq_some_iff.mp h
        subst h2
        rw [Rep] at hr ⊢
        obtain ⟨p, dx, vs, e1, e0, e2, e4, e3⟩ := hr
        exact ⟨p, dx, vs, e1, fun z => e0 (by obtain ⟨r, rfl⟩ := e; exact List.mem_append_left _ z), e2, e4, go xs ys _ h1 e3⟩
      | _ => cases h
theorem zad.frz {E : XK} {f : M D} {Q : V -> Hp -> Prop} (r : Rel T μ H σ) (h : zad T E (Rep T) μ H (frz f σ) Q) : zad T E (Rep T) μ H (f σ) Q := by
  unfold L4.frz at h
  cases e : f σ with
  | bad => rw [e] at h; exact h
  | ex x σ1 =>
    rw [e] at h
    unfold frzO at h
    dsimp only at h
    by_cases ht : σ1.take σ.length = σ
    · rw [if_pos ht] at h
      intro μ1 H1 e1 r1
      obtain ⟨r2, e2⟩ := Rel.down r r1 e1 ht
      exact h μ H1 e2 r2
    · rw [if_neg ht] at h; exact h.elim
  | ok d σ1 =>
    rw [e] at h
    unfold frzO at h
    dsimp only at h
    by_cases ht : σ1.take σ.length = σ
    · rw [if_pos ht] at h
      cases ef : fz σ.length σ1 6 d with
      | none => rw [ef] at h; exact h.elim
      | some d' =>
        rw [ef] at h
        intro μ1 v H1 e1 r1 p1
        obtain ⟨r2, e2⟩ := Rel.down r r1 e1 ht
        exact h μ v H1 e2 r2 (fz_rep e1.pre r1 6 d d' v (by rw [r.len]; exact ef) p1)
    · rw [if_neg ht] at h; exact h.elim
end
noncomputable def eFrz (f : Ev -> M D) : Ev -> M D := fun ρ => frz (f ρ)
theorem fe_frz {T : Tb} {X : Cx} {e : Expr} {f : Ev -> M D} (h : FE T X e f) : FE T X e (eFrz f) := by
  intro pins s st H Q I hw
  obtain ⟨μ, ρ, σ, hE, hr, hp⟩ := hw
  exact h pins s st H Q I ⟨μ, ρ, σ, hE, hr, zad.frz hr hp⟩
end L4
namespace L4
open PySem PySem.Spec PyProof.Rows L2
section
variable {P : Program} {w : World} {H H' : Hp} {h h' : Heap} {a : Addr} {o : HO}
theorem objOk_there (x : zac P w H h a o) : ∃ u, h.get? a = some u := by
  cases o with
  | lst xs => obtain ⟨_, _, _, _, e⟩ := x; exact ⟨_, e⟩
  | tup xs => obtain ⟨_, _, _, ob, e, _⟩ := x; exact ⟨_, e⟩
  | dK kvs => obtain ⟨_, _, _, _, o, _, _, e, _⟩ := x; exact ⟨_, e⟩
  | dT kvs => obtain ⟨_, _, _, _, o, _, _, e, _⟩ := x; exact ⟨_, e⟩
  | set S n => obtain ⟨o, _, _, _, e, _⟩ := x; exact ⟨_, e⟩
  | ins C dx fs => obtain ⟨_, _, _, e, _⟩ := x; exact ⟨_, e⟩
  | own y => obtain ⟨_, e⟩ := x; exact ⟨_, e⟩
  | xd fs => obtain ⟨_, ⟨_, _, _, e, _⟩, _⟩ := x; exact ⟨_, e⟩
  | rng lo hi => obtain ⟨_, _, _, e⟩ := x; exact ⟨_, e⟩
  | frz ob u => obtain ⟨e, _⟩ := x; exact ⟨_, e⟩
  | tbl ps => exact ⟨_, x⟩
  | met f y => exact ⟨_, x⟩
  | ext φ => obtain ⟨_, ⟨_, e⟩, _⟩ := x; exact ⟨_, e⟩
theorem hok_of (x : HOk P w H h) (k : ∀ b o u, H b = some o -> h.get? b = some u -> h'.get? b = some u) : HOk P w H h' := fun b o e =>
  (x b o e).stay (fun c v hc q => by
    rcases hc with rfl | hc
    · exact k _ _ _ e q
    · exact k _ _ _ hc q) (fun _ q => q) fun _ _ q => q
end
section
variable {X : Cx} {pins : List (Addr × Obj)} {st : St} {H H' : Hp} {s s' : Shared} {cls : Value} {h' : Heap} {ea : Addr} {args : List Value} {M : Model} {E : Value -> Shared -> Prop} {Q : Unit -> Shared -> Prop}
theorem frs_own (hs : X.stack = X.env :: X.outer) (hf : X.env.frame = some X.env.locals) {b : Addr} : b ∈ frs X.stack ↔ b = X.env.locals \/ b ∈ frs X.outer := by
  rw [hs]; unfold frs; rw [List.filterMap_cons, hf]; exact List.mem_cons
theorem fly_mk (I : Inv X pins st H s) (hs : X.stack = X.env :: X.outer) (hf : X.env.frame = some X.env.locals) (hx : X.ex = []) {h'' : Heap} (un : Un (frs X.stack) [] H H' s.heap h'') : Un (frs X.outer) [] X.H₀ H' X.s₀.heap h'' := by
  have nex : ∀ b, b ∉ X.ex := fun b z => by rw [hx] at z; cases z
  have neL : ∀ b o, X.s₀.heap.get? b = some o -> b ≠ X.env.locals := fun b o e => Nat.ne_of_lt (Nat.lt_of_lt_of_le (Heap.lt_size e) I.ok.above)
  refine ⟨fun b o e n hb _ => ?_, fun b o e n hb _ => ?_, fun b o e n _ => ?_, fun b o e _ => ?_, fun b xs e => un.tups b xs (I.base.tups b xs e), fun b o u e => un.frzs b o u (I.base.frzs b o u e), fun b ps e => ?_⟩
  · exact un.keep b o (I.base.keep b o e n hb (nex b)) (I.base.free b o e n (nex b)) (fun z => ((frs_own hs hf).mp z).elim (neL b o e) hb) (by simp)
  · obtain ⟨sl, e1⟩ := I.base.slot b o e n hb (nex b)
    obtain ⟨sl', e2⟩ := un.slot b _ e1 (I.base.free b o e n (nex b)) ((frs_own hs hf).mpr (.inr hb)) (by simp)
    exact ⟨sl', e2⟩
  · obtain ⟨o', e1⟩ := I.base.there b o e (nex b)
    exact un.free b o' e1 (I.base.free b o e n (nex b)) (by simp)
  · obtain ⟨o', e1⟩ := I.base.there b o e (nex b)
    exact un.there b o' e1 (by simp)
  · obtain ⟨m1, e1⟩ := I.base.tbls b ps e
    obtain ⟨m2, e2⟩ := un.tbls b _ e1
    exact ⟨m1 ++ m2, by rw [e2, Array.append_assoc]⟩
theorem leave_made (I : Inv X pins st H s) (hs : X.stack = X.env :: X.outer) (hf : X.env.frame = some X.env.locals) (hex : X.ex = []) (hx : Heap.MadeExcOf s.heap h' ea cls args)
    (hQ : ∀ s'', Fly X.prog X.w X.outer X.H₀ X.s₀ cls H (.ref ea) s'' -> Q () s'') : wpAny M X.A (leaving X.env (.ref ea)) Q E { s with heap := h' } := by
  have ff : s.heap.FunFrames (PySem.W.hideAll s.heap (frs X.stack)) (X.env :: X.outer) := by
    have := PySem.W.funFrames_hide (as := frs X.stack) I.stack (fun env he a ha => List.mem_filterMap.mpr ⟨env, he, ha⟩)
    rwa [hs] at this ⊢
  have hid : ∀ b o, s.heap.get? b = some o -> b ∉ frs X.stack -> (PySem.W.hideAll s.heap (frs X.stack)).get? b = some o := fun b o e n => PySem.W.hideAll_get _ e n
  refine wpAny_leaves_madeW (base := PySem.W.hideAll s.heap (frs X.stack)) (h := s.heap) (outer := X.outer) (L := X.env.locals) (by rw [<- hs]; exact I.ok.frames) hf (fun b o q => PySem.W.of_hideAll _ q) ff hx fun h'' t x1 x2 x3 x4 => hQ _ ?_
  have stay : ∀ b o, s.heap.get? b = some o -> b ∉ frs X.stack -> h''.get? b = some o := fun b o e n => x1.1 b o (hid b o e n)
  have slots : ∀ b o, s.heap.get? b = some o -> b ∈ frs X.stack -> ∃ sl, h''.get? b = some { o with slots := sl } := fun b o e n => by
    obtain ⟨_, o', e', hd⟩ := I.stack.mem n
    rw [e] at e'; cases e'
    exact x4 b o (hx.keeps b o e) hd
  have un : Un (frs X.stack) [] H H s.heap h'' := ⟨fun b o e n hb _ => stay b o e hb, fun b o e n hb _ => slots b o e hb, fun b o e n _ => n, fun b o e _ => by
    by_cases hb : b ∈ frs X.stack
    · obtain ⟨sl, q⟩ := slots b o e hb; exact ⟨_, q⟩
    · exact ⟨o, stay b o e hb⟩, fun _ _ e => e, fun _ _ _ e => e, fun b ps e => ⟨#[], by rw [e]; simp⟩⟩
  have hn : H ea = none := by
    cases q : H ea with
    | none => rfl
    | some u => obtain ⟨v, e⟩ := objOk_there (I.hok _ _ q); rw [hx.new] at e; cases e
  have nst : ∀ b o, H b = some o -> b ∉ frs X.stack := fun b o e z => by rw [I.stkFree b z] at e; cases e
  have nex : ∀ b, b ∉ X.ex := fun b z => by rw [hex] at z; cases z
  have neL : ∀ b o, X.s₀.heap.get? b = some o -> b ≠ X.env.locals := fun b o e => Nat.ne_of_lt (Nat.lt_of_lt_of_le (Heap.lt_size e) I.ok.above)
  refine ⟨⟨ea, .ref t, _, rfl, x1, hn, ?_, fun b o e => ?_, fun b o e n hb => ?_, fun b o e hb => ?_⟩, I.os, I.bare, fly_mk I hs hf hex un, hok_of I.hok fun b o u e q => stay b u q (nst b o e)⟩
  · cases q : X.s₀.heap.get? ea with
    | none => rfl
    | some u => obtain ⟨v, e⟩ := I.base.there _ _ q (nex _); rw [hx.new] at e; cases e
  · obtain ⟨u, q⟩ := objOk_there (I.hok _ _ e)
    exact ⟨u, hid b u q (nst b o e)⟩
  · exact hid b o (I.base.keep b o e n hb (nex b)) fun z => ((frs_own hs hf).mp z).elim (neL b o e) hb
  · obtain ⟨o', q⟩ := I.base.there b o e (nex b)
    exact ⟨o', hid b o' q fun z => ((frs_own hs hf).mp z).elim (neL b o e) hb⟩
theorem fly_un {P : Program} {w : World} {outer : List Env} {e : Value} (F : Fly P w outer H s cls H' e s') {h6 : Heap} {B : Heap} (hB : ∀ b o, s.heap.get? b = some o -> H b = none -> b ∉ frs outer -> B.get? b = some o) (hT : ∀ b o, H' b = some o -> ∃ ob, B.get? b = some ob)
    (hA : ∀ b o, s.heap.get? b = some o -> b ∉ frs outer -> ∃ o', B.get? b = some o') (hb0 : ∀ b o, B.get? b = some o -> s'.heap.get? b = some o) (hb6 : ∀ b o, B.get? b = some o -> h6.get? b = some o) (hsl : s'.heap.UpToSlots h6) (hfr : ∀ b ∈ frs outer, ∃ o, s.heap.get? b = some o /\ (∀ vs, o.data ≠ .fields vs) /\ H b = none) :
    Un (frs outer) [] H H' s.heap h6 /\ HOk P w H' h6 := by
  refine ⟨⟨fun b o e n hb _ => hb6 b o (hB b o e n hb), fun b o e n hb hx => ?_, F.un.free, fun b o e hx => ?_, F.un.tups, F.un.frzs, F.un.tbls⟩, hok_of F.hok fun b o u e q => ?_⟩
  · obtain ⟨sl, e1⟩ := F.un.slot b o e n hb hx
    obtain ⟨o', e', hd, _⟩ := hfr b hb
    rw [e] at e'; cases e'
    obtain ⟨sl', e2⟩ := hsl b _ e1 hd
    exact ⟨sl', e2⟩
  · by_cases hb : b ∈ frs outer
    · obtain ⟨o', e', hd, hn⟩ := hfr b hb
      rw [e] at e'; cases e'
      obtain ⟨sl, e1⟩ := F.un.slot b o e hn hb hx
      obtain ⟨sl', e2⟩ := hsl b _ e1 hd
      exact ⟨_, e2⟩
    · obtain ⟨o', e1⟩ := hA b o e hb
      exact ⟨o', hb6 b o' e1⟩
  · obtain ⟨ob, e1⟩ := hT b o e
    have := hb0 b ob e1
    rw [q] at this; cases this
    exact hb6 b _ e1
theorem fly_frames (I : Inv X pins st H s) : ∀ b ∈ frs X.stack, ∃ o, s.heap.get? b = some o /\ (∀ vs, o.data ≠ .fields vs) /\ H b = none := fun b hb => by
  obtain ⟨_, o, e, hd⟩ := I.stack.mem hb
  exact ⟨o, e, hd, I.stkFree b hb⟩
theorem leave_on (I : Inv X pins st H s) (hs : X.stack = X.env :: X.outer) (hf : X.env.frame = some X.env.locals) (hex : X.ex = []) {e : Value} (F : Fly X.prog X.w X.stack H s cls H' e s')
    (hQ : ∀ s'', Fly X.prog X.w X.outer X.H₀ X.s₀ cls H' e s'' -> Q () s'') : wpAny M X.A (leaving X.env e) Q E s' := by
  obtain ⟨ea, a0, B, rfl, fl, hn, hnew, hT, hB, hA⟩ := F.ex
  have fl' : Heap.FlyingW B (X.env :: X.outer) ea cls a0 s'.heap := by rw [<- hs]; exact fl
  refine wpAny_leaves_onW (by rw [<- hs]; exact I.ok.frames) hf fl' fun h'' x1 x2 => hQ _ ?_
  obtain ⟨un, hok⟩ := fly_un F hB hT hA fl.1 x1.1 x2 (fly_frames I)
  have nex : ∀ b, b ∉ X.ex := fun b z => by rw [hex] at z; cases z
  have neL : ∀ b o, X.s₀.heap.get? b = some o -> b ≠ X.env.locals := fun b o e => Nat.ne_of_lt (Nat.lt_of_lt_of_le (Heap.lt_size e) I.ok.above)
  refine ⟨⟨ea, a0, B, rfl, x1, hn, ?_, hT, fun b o e n hb => ?_, fun b o e hb => ?_⟩, F.os.trans I.os, F.bare, fly_mk I hs hf hex un, hok⟩
  · cases q : X.s₀.heap.get? ea with
    | none => rfl
    | some u => obtain ⟨v, e⟩ := I.base.there _ _ q (nex _); rw [hnew] at e; cases e
  · exact hB b o (I.base.keep b o e n hb (nex b)) (I.base.free b o e n (nex b)) fun z => ((frs_own hs hf).mp z).elim (neL b o e) hb
  · obtain ⟨o', q⟩ := I.base.there b o e (nex b)
    exact hA b o' q fun z => ((frs_own hs hf).mp z).elim (neL b o e) hb
end
theorem thr_cx {P : Program} {w : World} {K : PySem.W.Frag} {mg : Str -> Option Value} {base : Heap} {N : List Str} {qual : Str} {scope : Scope} {f : Addr} {cd : Value} {A : Around} {outer : List Env} {s : Shared} {H : Hp} {E : XK} {st : St} {cls : Value} {H' : Hp}
    (h : E cls none H') : Thr (cxOf (CXE P w) P w K mg base N qual scope f cd A outer s H E) st cls H' where
  fly := fun pins H1 s1 e s' I F => leave_on I rfl rfl rfl F fun s'' G => ⟨cls, H', G, h⟩
  made := fun pins s1 ea h' args I hx => leave_made I rfl rfl rfl hx fun s'' G => ⟨cls, H', G, h⟩
theorem zcp {P : Program} {w : World} {K : PySem.W.Frag} {mg : Str -> Option Value} {base : Heap} {N : List Str} {qual : Str} {scope : Scope} {f : Addr} {cd : Value} {A : Around} {outer : List Env} {s : Shared} {H : Hp} {E : XK} :
    PassesOwn (model P w) (cxOf (CXE P w) P w K mg base N qual scope f cd A outer s H E).A (cxOf (CXE P w) P w K mg base N qual scope f cd A outer s H E).env (cxOf (CXE P w) P w K mg base N qual scope f cd A outer s H E).xe := PassesOwn.leaving
def endK : Fl -> M D
  | .nx _ => ret .non
  | .rt d => ret d
  | .xc _ x => fun σ => .ex x σ
  | _ => bad
def runO : Out Fl -> Out D
  | .ok fl σ => endK fl σ
  | _ => .bad
def run (n : Nat) (g : Ev -> M Fl) (ds : List D) : M D := fun σ => runO (g (ds.map some ++ List.replicate (n - ds.length) none) σ)
def spF (T : Tb) (n : Nat) (f : List D -> M D) : Sp := fun vs H Q E => ∃ μ σ ds, zaf T μ H ds vs /\ ds.length = n /\ Rel T μ H σ /\ zad T E (Rep T) μ H (f ds σ) Q
def fnK (n : Nat) (f : List D -> M D) (dds : List D) (ds : List D) : M D := if (ds ++ dds).length = n then f (ds ++ dds) else bad
def eFn (n : Nat) (f : List D -> M D) (dds : List D) (fs : Ev -> M (List D)) : Ev -> M D := fun ρ => bnd (fs ρ) (fnK n f dds)
section
variable {T : Tb} {X : Cx}
theorem start_rep {μ : List Addr} {H : Hp} {ds : List D} {vs : List V} {N : List Str} (h : zaf T μ H ds vs) : ERep T μ H (ds.map some ++ List.replicate (N.length - ds.length) none) (L2.start N vs) := by
  have hl := h.length
  refine ⟨by simp [L2.start, hl], fun i d e => ?_⟩
  by_cases hi : i < ds.length
  · rw [List.getElem?_append_left (by simpa using hi), List.getElem?_map] at e
    cases e2 : ds[i]? with
    | none => rw [e2] at e; cases e
    | some x =>
      rw [e2] at e; cases e
      obtain ⟨v, h1, h2⟩ := h.get e2
      refine ⟨v, ?_, h2⟩
      unfold L2.start
      rw [List.getElem?_append_left (by simpa [<- hl] using hi), List.getElem?_map, h1]; rfl
  · rw [List.getElem?_append_right (by simpa using hi), List.getElem?_replicate] at e
    split at e <;> cases e
variable {k : Nat} {f C : Addr} {fd : FuncData} {ps : List Str} {dvs : List V} {dval : List Value} {dds : List D} {x : Str} {p pos : Pos} {e : Expr} {es : List Expr} {fn : List D -> M D} {fs : Ev -> M (List D)} {sp : Sp} {t : TA}
theorem run_fnX {pins : List (Addr × Obj)} {st : St} {H : Hp} {s : Shared} {Q : VK} {us : List Value} {vs : List V} (F : FnOk X.prog X.w X.K X.mg X.base (CXE X.prog X.w) k f fd ps sp) (hr : Room k X.A) (hb : Binds X.K fd ps dval) (hd : zag dvs dval)
    (I : Inv X pins st H s) (r : zag vs us) (h : sp (vs ++ dvs) H Q (XE X st)) : wpAny (model X.prog X.w) X.A (call (.ref f) us) (EP X pins st Q) X.xe s := by
  have r2 : zag (vs ++ dvs) (us ++ dval) := r.append hd
  have hl : (us ++ dval).length = ps.length := by rw [<- r2.length]; exact F.len _ _ _ _ h
  refine wpAny_call (codeAny_mono (F.run X.A X.stack s H ⟨us, []⟩ (us ++ dval) (vs ++ dvs) Q (XE X st) hr I.env0 (hb s us I.kIn hl) r2 h) fun r s' hq => ?_)
  cases r with
  | error e => obtain ⟨cls, H', hfly, ht⟩ := hq; exact ht.fly pins H s e s' I hfly
  | ok fl =>
    cases fl with
    | ret u => exact I.after hq
    | next => exact False.elim hq
    | brk => exact False.elim hq
    | cont => exact False.elim hq
theorem fe_call (F : FnOk X.prog X.w X.K X.mg X.base (CXE X.prog X.w) k f fd ps (spF T ps.length fn)) (hr : Room k X.A) (hg : Gl X x) (hm : X.mg x = some (.ref f)) (hk : PySem.W.keepIn X.K (.ref f) = true) (hb : Binds X.K fd ps dval) (hd : zag dvs dval) (hdd : ∀ μ H, zaf T μ H dds dvs)
    (ha : FA T X (e :: es) fs) (hdb : (x == ("__debug__" : Str)) = false := by decide) (he : starEach (e :: es) X.env = (false, eval e X.env) :: starEach es X.env := by rfl) (hpl : (backTo pos (starEach es X.env)).any (·.1) = false := by rfl) :
    FE T X (.Call (.Name x p) (e :: es) [] pos) (eFn ps.length fn dds fs) := by
  intro pins s st H Q I h
  refine wpAny_Call_Name_kw (ld_glob I hg hm ?_ hdb)
  obtain ⟨μ, ρ, σ, hE, hr', hp⟩ := h
  refine PySem.W.callWith_K (h₀ := X.base) I.ok.mod.kin hk (thn (ha pos pins s st H (fun vs H1 => spF T ps.length fn (vs ++ dvs) H1 Q (XE X st)) I ⟨μ, ρ, σ, hE, hr', hp.bind fun ds σ1 μ1 vs H1 _ e1 r1 p1 q1 => ?_⟩) fun us s1 ⟨vs, H1, I1, r, q⟩ => ⟨I1.kIn, ?_⟩) he hpl
  · unfold fnK at q1
    by_cases hl : (ds ++ dds).length = ps.length
    · rw [if_pos hl] at q1
      exact ⟨μ1, σ1, ds ++ dds, p1.append (hdd _ _), hl, r1, q1⟩
    · rw [if_neg hl] at q1; exact q1.elim
  · exact run_fnX F hr hb hd I1 r q
variable {P : Program} {w : World} {K : PySem.W.Frag} {mg : Str -> Option Value} {base : Heap}
theorem fok {x qual : Str} {st : Stmt} {N : List Str} {g : Ev -> M Fl} {params : Arguments} {dV kV doc pm cdv ct oc : Value} {an od : Option Addr} {osl : Array (Option Value)}
    (lk : K.lookup f = some ⟨oc, od, .func (PySem.W.fnOf x qual params (zan st) (zao st) dV kV doc pm an cdv ct), osl⟩) (hcd : PySem.W.codeIn K cdv qual = true) (S : FnScope N ps (zao st))
    (hb : ∀ (A : Around) (outer : List Env) (s : Shared) (H : Hp) (E : XK), Room k (A.deeper (envOfC qual (zao st) s.heap.objs.size f cdv)) -> FSs T (cxOf (CXE P w) P w K mg base N qual (zao st) f cdv A outer s H E) (zan st) g) :
    FnOk P w K mg base (CXE P w) (k + 1) f (PySem.W.fnOf x qual params (zan st) (zao st) dV kV doc pm an cdv ct) ps (spF T ps.length (run N.length g)) := by
  refine fn_of lk hcd S (fun vs H Q E h => ?_) (fun A outer s H vs Q E hr h => ?_)
  · obtain ⟨μ, σ, ds, h1, h2, _⟩ := h
    rw [<- h1.length]; exact h2
  · obtain ⟨μ, σ, ds, h1, h2, h3, h4⟩ := h
    refine ⟨_, hb A outer s H E hr, μ, _, σ, start_rep h1, h3, ?_⟩
    unfold run at h4
    cases eg : g (ds.map some ++ List.replicate (N.length - ds.length) none) σ with
    | bad => rw [eg] at h4; exact h4
    | ex x σ1 => rw [eg] at h4; exact h4.elim
    | ok fl σ1 =>
      rw [eg] at h4
      intro μ1 gl H1 e1 r1 q1
      have p1 := h4.mono e1
      cases fl with
      | nx ρ2 => cases gl with
        | nx st2 => have z : Q V.non H1 := zad.here (d := D.non) p1 r1 (by rw [Rep]); exact z
        | _ => exact q1.elim
      | rt d2 => cases gl with
        | rt v2 => have z : Q v2 H1 := zad.here (d := d2) p1 r1 q1; exact z
        | _ => exact q1.elim
      | xc ρ2 x2 => cases gl with
        | xc st2 c2 =>
          obtain ⟨_, rfl⟩ := q1
          exact thr_cx (p1 μ1 H1 (Ext.refl _ _) r1)
        | _ => exact q1.elim
      | _ => exact p1.elim
theorem fok_frz (F : FnOk P w K mg base (CXE P w) k f fd ps (spF T ps.length fn)) : FnOk P w K mg base (CXE P w) k f fd ps (spF T ps.length (fun ds => frz (fn ds))) :=
  F.imp fun vs H Q E h => by
    obtain ⟨μ, σ, ds, h1, h2, h3, h4⟩ := h
    exact ⟨μ, σ, ds, h1, h2, h3, zad.frz h3 h4⟩
end
end L4
namespace L4
open PySem PySem.Spec PyProof.Rows L2
def clOf (env : Env) (names : List (Str × NameKind)) (acc : List (Str × Addr)) : List (Str × Addr) :=
  names.foldl (fun cs y => if (y.2 == .free) = true then (match env.cells.lookup y.1 with | some c => (y.1, c) :: cs | none => cs) else cs) acc
theorem closure_go (env : Env) : ∀ (names : List (Str × NameKind)) (acc : List (Str × Addr)), (∀ y ∈ names, y.2 = .free -> ∃ c, env.cells.lookup y.1 = some c) ->
    (forIn names acc (fun x (cs : List (Str × Addr)) => match x with | (name, kind) => if (kind == .free) = true then (do let a <- cellOf env name; pure (ForInStep.yield ((name, a) :: cs))) else pure (ForInStep.yield cs)) : Sem (List (Str × Addr))) = pure (clOf env names acc)
  | [], acc, _ => rfl
  | (n, k) :: r, acc, h => by
    rw [List.forIn_cons]
    by_cases hk : (k == NameKind.free) = true
    · obtain ⟨c, hc⟩ := h (n, k) List.mem_cons_self (by simpa using hk)
      have e1 : cellOf env n = pure c := by unfold cellOf; rw [hc]
      simp only [hk, if_true, e1]
      show (forIn r ((n, c) :: acc) _ : Sem (List (Str × Addr))) = _
      rw [closure_go env r ((n, c) :: acc) fun y hy => h y (List.mem_cons_of_mem _ hy)]
      have e2 : clOf env ((n, k) :: r) acc = clOf env r ((n, c) :: acc) := by
        unfold clOf; rw [List.foldl_cons]; simp only [hk, if_true, hc]
      rw [e2]
    · simp only [hk]
      show (forIn r acc _ : Sem (List (Str × Addr))) = _
      rw [closure_go env r acc fun y hy => h y (List.mem_cons_of_mem _ hy)]
      have e2 : clOf env ((n, k) :: r) acc = clOf env r acc := by
        unfold clOf; rw [List.foldl_cons]; simp only [hk]; rfl
      rw [e2]
theorem closure_is (env : Env) (scope : Scope) (h : ∀ y ∈ scope.names, y.2 = .free -> ∃ c, env.cells.lookup y.1 = some c) : closureFor scope env = pure (clOf env scope.names []) := by
  have e := closure_go env scope.names [] h
  unfold closureFor
  simp only [bind_pure]
  exact e
theorem cl_sub (env : Env) : ∀ (names : List (Str × NameKind)) (acc : List (Str × Addr)) (n : Str) (c : Addr), (∀ n c, acc.lookup n = some c -> env.cells.lookup n = some c) -> (clOf env names acc).lookup n = some c -> env.cells.lookup n = some c
  | [], acc, n, c, h, e => h n c e
  | (y, k) :: r, acc, n, c, h, e => by
    unfold clOf at e
    rw [List.foldl_cons] at e
    refine cl_sub env r _ n c (fun n c q => ?_) e
    by_cases hk : (k == NameKind.free) = true
    · simp only [hk, if_true] at q
      cases hc : env.cells.lookup y with
      | none => rw [hc] at q; exact h n c q
      | some c' =>
        rw [hc] at q
        rw [List.lookup_cons] at q
        cases hn : (n == y) with
        | true => rw [hn] at q; cases q; rw [eq_of_beq hn]; exact hc
        | false => rw [hn] at q; exact h n c q
    · simp only [hk] at q; exact h n c q
theorem cl_keep (env : Env) : ∀ (names : List (Str × NameKind)) (acc : List (Str × Addr)) (n : Str), (∃ c, acc.lookup n = some c) -> ∃ c, (clOf env names acc).lookup n = some c
  | [], acc, n, h => h
  | (y, k) :: r, acc, n, h => by
    unfold clOf
    rw [List.foldl_cons]
    refine cl_keep env r _ n ?_
    by_cases hk : (k == NameKind.free) = true
    · simp only [hk, if_true]
      cases hc : env.cells.lookup y with
      | none => exact h
      | some c' =>
        show ∃ c, List.lookup n ((y, c') :: acc) = some c
        rw [List.lookup_cons]
        cases hn : (n == y) with
        | true => exact ⟨c', rfl⟩
        | false => exact h
    · simp only [hk]; exact h
theorem cl_has (env : Env) : ∀ (names : List (Str × NameKind)) (acc : List (Str × Addr)) (n : Str), (n, NameKind.free) ∈ names -> (∃ c, env.cells.lookup n = some c) -> ∃ c, (clOf env names acc).lookup n = some c
  | [], acc, n, h, _ => nomatch h
  | (y, k) :: r, acc, n, h, hc => by
    unfold clOf
    rw [List.foldl_cons]
    rcases List.mem_cons.mp h with e | e
    · cases e
      refine cl_keep env r _ _ ?_
      obtain ⟨c, hc⟩ := hc
      refine ⟨c, ?_⟩
      simp [hc]
    · exact cl_has env r _ n e hc
theorem relabel_lookup {env : Env} : ∀ {names : List (Str × NameKind)} {x : Str} {k : NameKind},
    (names.map fun (n, k) => if (k == NameKind.free && env.scope.kind == .function && env.kindOf n == some .cell) then (n, NameKind.cell) else (n, k)).lookup x = some k -> ∃ k0, names.lookup x = some k0 /\ (k = k0 \/ (k0 = .free /\ k = .cell))
  | [], _, _, h => by simp at h
  | (n, k0) :: r, x, k, h => by
    have ih := @relabel_lookup env r x k
    have h' : List.lookup x ((if (k0 == NameKind.free && env.scope.kind == .function && env.kindOf n == some .cell) = true then (n, NameKind.cell) else (n, k0)) :: (r.map fun (n, k) => if (k == NameKind.free && env.scope.kind == .function && env.kindOf n == some .cell) then (n, NameKind.cell) else (n, k))) = some k := h
    cases hx : x == n with
    | true =>
      by_cases hc : (k0 == NameKind.free && env.scope.kind == .function && env.kindOf n == some .cell) = true
      · rw [if_pos hc] at h'
        simp only [List.lookup_cons, hx] at h' ⊢
        cases h'
        simp only [Bool.and_eq_true] at hc
        exact ⟨k0, rfl, .inr ⟨by simpa using hc.1.1, rfl⟩⟩
      · rw [if_neg hc] at h'
        simp only [List.lookup_cons, hx] at h' ⊢
        cases h'
        exact ⟨k0, rfl, .inl rfl⟩
    | false =>
      by_cases hc : (k0 == NameKind.free && env.scope.kind == .function && env.kindOf n == some .cell) = true
      · rw [if_pos hc] at h'; simp only [List.lookup_cons, hx] at h' ⊢; exact ih h'
      · rw [if_neg hc] at h'; simp only [List.lookup_cons, hx] at h' ⊢; exact ih h'
theorem relabel_free {env : Env} : ∀ {names : List (Str × NameKind)} {x : Str}, names.lookup x = some .free ->
    (names.map fun (n, k) => if (k == NameKind.free && env.scope.kind == .function && env.kindOf n == some .cell) then (n, NameKind.cell) else (n, k)).lookup x = some .cell \/
    (names.map fun (n, k) => if (k == NameKind.free && env.scope.kind == .function && env.kindOf n == some .cell) then (n, NameKind.cell) else (n, k)).lookup x = some .free
  | [], _, h => by simp at h
  | (n, k) :: r, x, h => by
    have ih := @relabel_free env r x
    have goal : ∀ z, List.lookup x ((if (k == NameKind.free && env.scope.kind == .function && env.kindOf n == some .cell) = true then (n, NameKind.cell) else (n, k)) :: (r.map fun (n, k) => if (k == NameKind.free && env.scope.kind == .function && env.kindOf n == some .cell) then (n, NameKind.cell) else (n, k))) = z ->
      (List.map (fun (n, k) => if (k == NameKind.free && env.scope.kind == .function && env.kindOf n == some .cell) then (n, NameKind.cell) else (n, k)) ((n, k) :: r)).lookup x = z := fun z e => e
    cases hx : x == n with
    | true =>
      simp only [List.lookup_cons, hx] at h
      cases h
      by_cases hc : (NameKind.free == NameKind.free && env.scope.kind == .function && env.kindOf n == some .cell) = true
      · exact .inl (goal _ (by rw [if_pos hc]; simp only [List.lookup_cons, hx]))
      · exact .inr (goal _ (by rw [if_neg hc]; simp only [List.lookup_cons, hx]))
    | false =>
      simp only [List.lookup_cons, hx] at h
      have e : List.lookup x ((if (k == NameKind.free && env.scope.kind == .function && env.kindOf n == some .cell) = true then (n, NameKind.cell) else (n, k)) :: (r.map fun (n, k) => if (k == NameKind.free && env.scope.kind == .function && env.kindOf n == some .cell) then (n, NameKind.cell) else (n, k))) =
          (r.map fun (n, k) => if (k == NameKind.free && env.scope.kind == .function && env.kindOf n == some .cell) then (n, NameKind.cell) else (n, k)).lookup x := by
        by_cases hc : (k == NameKind.free && env.scope.kind == .function && env.kindOf n == some .cell) = true
        · rw [if_pos hc]; simp only [List.lookup_cons, hx]
        · rw [if_neg hc]; simp only [List.lookup_cons, hx]
      rcases ih h with q | q
      · exact .inl (goal _ (e.trans q))
      · exact .inr (goal _ (e.trans q))
theorem mem_of_lk {names : List (Str × NameKind)} {x : Str} {k : NameKind} (h : names.lookup x = some k) : (x, k) ∈ names := PySem.mem_of_lookup h
def blk (X : Cx) (N' : List Str) (scope : Scope) (cl : List (Str × Addr)) (C : Addr) (s₀ : Shared) (H₀ : Hp) (ex : List Addr) : Cx :=
  { X with N := N', s₀ := s₀, H₀ := H₀, env := compEnvC scope cl C X.env, outer := X.stack, stack := X.stack, ex := ex, fn := fun _ => false, pn := [], xe := fun _ _ => False }
structure LcOk (X : Cx) (x : Str) (M' : List Str) (ix : List Nat) (scope : Scope) : Prop where
  kind : scope.kind = .function
  cell : (scope.names.all fun y => !(y.2 == .cell)) = true
  names : (scope.names.all fun y => !(y.2 == .local) || scope.names.lookup y.1 == some .local) = true
  free : (scope.names.all fun y => !(y.2 == .free) || (X.env.scope.names.lookup y.1 == some .cell || X.env.scope.names.lookup y.1 == some .free)) = true
  at_ : ix.map (fun i => X.N[i]?) = M'.map some
  vis : (M'.all fun y => (X.env.scope.names.lookup y == some .cell || X.env.scope.names.lookup y == some .free) && scope.names.lookup y == some .free) = true
def blkEv (ix : List Nat) (ρ : Ev) : Ev := none :: ix.map fun i => (ρ[i]?).getD none
def blkSt (ix : List Nat) (st : St) : St := none :: ix.map fun i => (st[i]?).getD none
theorem blk_rep {T : Tb} {μ : List Addr} {H : Hp} {ρ : Ev} {st : St} (ix : List Nat) (h : ERep T μ H ρ st) : ERep T μ H (blkEv ix ρ) (blkSt ix st) := by
  refine ⟨by simp [blkEv, blkSt], fun i d e => ?_⟩
  cases i with
  | zero => simp [blkEv] at e
  | succ j =>
    have e' : (ix.map fun i => (ρ[i]?).getD none)[j]? = some (some d) := e
    rw [List.getElem?_map] at e'
    cases ej : ix[j]? with
    | none => rw [ej] at e'; cases e'
    | some i0 =>
      rw [ej] at e'
      have e2 : (ρ[i0]?).getD none = some d := Option.some.inj e'
      have e3 : ρ[i0]? = some (some d) := by
        cases q : ρ[i0]? with
        | none => rw [q] at e2; cases e2
        | some o => rw [q] at e2; exact congrArg some e2
      obtain ⟨v, h1, h2⟩ := h.2 i0 d e3
      refine ⟨v, ?_, h2⟩
      show (ix.map fun i => (st[i]?).getD none)[j]? = _
      rw [List.getElem?_map, ej]
      show some ((st[i0]?).getD none) = _
      rw [h1]; rfl
section
variable {X : Cx} {pins : List (Addr × Obj)} {st : St} {H : Hp} {s : Shared} {x : Str} {M' : List Str} {ix : List Nat} {scope : Scope} {fp : List Addr}
theorem free_of (L : LcOk X x M' ix scope) (y : Str × NameKind) (hy : y ∈ scope.names) (e : y.2 = .free) : X.env.kindOf y.1 = some .cell \/ X.env.kindOf y.1 = some .free := by
  have q := List.all_eq_true.mp L.free y hy
  rw [e] at q
  simp only [beq_self_eq_true, Bool.not_true, Bool.false_or, Bool.or_eq_true] at q
  rcases q with q | q
  · exact .inl (eq_of_beq q)
  · exact .inr (eq_of_beq q)
theorem clos_of (I : Inv X pins st H s) (L : LcOk X x M' ix scope) : ∀ y ∈ scope.names, y.2 = .free -> ∃ c, X.env.cells.lookup y.1 = some c := fun y hy e => I.ok.has y.1 (free_of L y hy e)
theorem nocell (L : LcOk X x M' ix scope) : ∀ y ∈ scope.names, y.2 ≠ .cell := fun y hy e => by
  have q := List.all_eq_true.mp L.cell y hy
  rw [e] at q
  simp at q
theorem blk_start (I : Inv X pins st H s) (L : LcOk X x M' ix scope) (hfp : ∀ b ∈ fp, FpOk X pins H b /\ b < s.heap.objs.size) {h' : Heap} {t' : Nat} {m : Str -> Option Value} (hns : h'.Ns s.heap.objs.size m)
    (hk : ∀ b o, s.heap.get? b = some o -> h'.get? b = some o) :
    Inv (blk X (x :: M') scope (clOf X.env scope.names []) s.heap.objs.size s H fp) [] (blkSt ix st) H { s with heap := h', toks := t' } := by
  have sub : ∀ n c, (clOf X.env scope.names []).lookup n = some c -> X.env.cells.lookup n = some c := fun n c e => cl_sub X.env scope.names [] n c (fun _ _ q => by simp at q) e
  have cellLt : ∀ n c, X.env.cells.lookup n = some c -> c < s.heap.objs.size := fun n c e => by obtain ⟨v, z⟩ := I.cell n c e; exact z.lt
  have fresh : H s.heap.objs.size = none := I.hok.fresh (Nat.le_refl _)
  refine ⟨⟨I.ok.mod, L.kind, I.ok.glob, I.ok.blt, Nat.le_refl _, fun a b c h1 h2 => I.ok.inj a b c (sub a c h1) (sub b c h2), fun a ha => ?_, fun a c h => (by cases h), I.ok.hd, I.ok.frames, .inl rfl, fun b hb => ⟨Nat.ne_of_lt (hfp b hb).2, fun a c e => ?_⟩, fun b o e => I.bs b o e, Nat.le_trans I.ok.bsz I.sz, fun b o e hb => ?_, fun b hb z => ?_, I.stack, I.stkFree⟩,
    rfl, I.bare, Un.kept hk, ⟨m, hns, fun i y v e1 e2 e3 => ?_⟩, fun a c e => ?_, fresh, fun a c e => I.freeC a c (sub a c e), fun p hp => absurd (show p ∈ ([] : List (Addr × Obj)) from hp) (by simp), I.hok.kept hk, ?_⟩
  ·
    have ha' : (scope.names.map fun (n, k) => if (k == NameKind.free && X.env.scope.kind == .function && X.env.kindOf n == some .cell) then (n, NameKind.cell) else (n, k)).lookup a = some .cell \/ (scope.names.map fun (n, k) => if (k == NameKind.free && X.env.scope.kind == .function && X.env.kindOf n == some .cell) then (n, NameKind.cell) else (n, k)).lookup a = some .free := ha
    have hf : scope.names.lookup a = some .free := by
      rcases ha' with z | z
      · obtain ⟨k0, h1, h2⟩ := relabel_lookup z
        rcases h2 with h2 | ⟨h2, _⟩
        · subst h2; exact absurd rfl (nocell L _ (mem_of_lk h1))
        · rw [h2] at h1; exact h1
      · obtain ⟨k0, h1, h2⟩ := relabel_lookup z
        rcases h2 with h2 | ⟨_, h2⟩
        · rw [<- h2] at h1; exact h1
        · cases h2
    exact cl_has X.env scope.names [] a (mem_of_lk hf) (clos_of I L _ (mem_of_lk hf) rfl)
  · exact (hfp b hb).1.2.2.2.2.1 a c (sub a c e)
  · rcases (hfp b hb).1.2.2.2.1 with z | z
    · exact I.ok.noex b o e z
    · exact absurd (Nat.lt_of_lt_of_le (Heap.lt_size e) (Nat.le_trans I.ok.bsz z)) (Nat.lt_irrefl _)
  · rcases List.mem_cons.mp (I.stkSub b z) with q | q
    · exact (hfp b hb).1.2.1 q
    · exact (hfp b hb).1.2.2.1 q
  ·
    cases i with
    | zero => simp [blkSt] at e2
    | succ j =>
      have e1' : M'[j]? = some y := e1
      have e2' : (ix.map fun i => (st[i]?).getD none)[j]? = some (some v) := e2
      rw [List.getElem?_map] at e2'
      cases ej : ix[j]? with
      | none => rw [ej] at e2'; cases e2'
      | some i0 =>
        rw [ej] at e2'
        have e4 : (st[i0]?).getD none = some v := Option.some.inj e2'
        have e5 : st[i0]? = some (some v) := by
          cases q : st[i0]? with
          | none => rw [q] at e4; cases e4
          | some o => rw [q] at e4; exact congrArg some e4
        have e6 : X.N[i0]? = some y := by
          have z := congrArg (fun l => l[j]?) L.at_
          simp only [List.getElem?_map, ej, e1', Option.map_some] at z
          exact Option.some.inj z
        have q := List.all_eq_true.mp L.vis y (List.mem_of_getElem? e1')
        simp only [Bool.and_eq_true, Bool.or_eq_true] at q
        have kx : X.env.scope.names.lookup y = some .cell \/ X.env.scope.names.lookup y = some .free := by
          rcases q.1 with z | z
          · exact .inl (eq_of_beq z)
          · exact .inr (eq_of_beq z)
        have ky : scope.names.lookup y = some .free := eq_of_beq q.2
        obtain ⟨m0, hn0, hl0⟩ := I.loc
        obtain ⟨u, ru, lu⟩ := hl0 i0 y v e6 e5 (by rcases kx with z | z; exact .inr (.inl z); exact .inr (.inr z))
        refine ⟨u, ru, .inr ⟨relabel_free (env := X.env) ky, ?_⟩⟩
        rcases lu with ⟨z, _⟩ | ⟨_, c, ec, zc⟩
        · rcases kx with k | k
          · rw [show X.env.kindOf y = X.env.scope.names.lookup y from rfl, k] at z; cases z
          · rw [show X.env.kindOf y = X.env.scope.names.lookup y from rfl, k] at z; cases z
        · obtain ⟨c', hc'⟩ := cl_has X.env scope.names [] y (mem_of_lk ky) (clos_of I L _ (mem_of_lk ky) rfl)
          have e7 := sub y c' hc'
          rw [ec] at e7; cases e7
          obtain ⟨o, ho, hd⟩ := zc
          exact ⟨c, hc', o, hk _ _ ho, hd⟩
  · obtain ⟨v, o, ho, hd⟩ := I.cell a c (sub a c e)
    exact ⟨v, o, hk _ _ ho, hd⟩
  · simp [blkSt, blk]
    have z := congrArg List.length L.at_
    simpa using z
end
end L4
namespace L4
open PySem PySem.Spec PyProof.Rows L2
def nox {α : Type} (m : M α) : M α := fun σ => match m σ with
  | .ex _ _ => .bad
  | o => o
theorem zad.bind0 {α β γ δ : Type} {T : Tb} {E E0 : XK} {R : List Addr -> Hp -> α -> γ -> Prop} {R' : List Addr -> Hp -> β -> δ -> Prop} {μ : List Addr} {H : Hp} {m : M α} {k : α -> M β} {σ : Sto} {Q : δ -> Hp -> Prop} {Q1 : γ -> Hp -> Prop}
    (h : zad T E R' μ H (bnd (nox m) k σ) Q) (f : ∀ a σ1 μ1 g H1, m σ = .ok a σ1 -> Ext μ H μ1 H1 -> Rel T μ1 H1 σ1 -> R μ1 H1 a g -> zad T E R' μ1 H1 (k a σ1) Q -> Q1 g H1) : zad T E0 R μ H (m σ) Q1 := by
  unfold bnd nox at h
  cases e : m σ with
  | ok a σ1 =>
    simp only [e] at h
    exact fun μ' g H' e' r q => f a σ1 μ' g H' e e' r q (h.mono e')
  | ex x σ1 => simp only [e] at h; exact h.elim
  | bad => simp only [e] at h; exact h
def zby (nx : Src) (n : Nat) (tg : D -> Ev -> Option Ev) (fi : Ev -> M Bool) (fe : Ev -> M D) : Nat -> Nat -> Ev -> M Unit
  | 0, _, _ => bad
  | k + 1, i, ρ => fun σ => match nx.nx i σ with
    | none => .bad
    | some none => .ok () σ
    | some (some d) => match tg d ρ with
      | none => .bad
      | some ρ1 => bnd (nox (fi ρ1)) (fun c => if c = true then bnd (nox (fe ρ1)) fun y => bnd (oAppend (.ref n) [y]) fun _ => zby nx n tg fi fe k (i + 1) ρ1 else zby nx n tg fi fe k (i + 1) ρ1) σ
def lcK (tg : D -> Ev -> Option Ev) (fi : Ev -> M Bool) (fe : Ev -> M D) (ρ : Ev) (nx : Src) : M D := fun σ =>
  bnd (zby nx σ.length tg fi fe 1001 0 ρ) (fun _ => ret (.ref σ.length)) (σ ++ [.lst []])
def eLC (src : Ev -> M Src) (ix : List Nat) (tg : D -> Ev -> Option Ev) (fi : Ev -> M Bool) (fe : Ev -> M D) : Ev -> M D := fun ρ => bnd (src ρ) (lcK tg fi fe (blkEv ix ρ))
def FIf (T : Tb) (X : Cx) (ifs : List Expr) (f : Ev -> M Bool) : Prop :=
  ∀ (pins : List (Addr × Obj)) (s : Shared) (st : St) (H : Hp) (Q : Bool -> Hp -> Prop), Inv X pins st H s -> tT T X f st H Q ->
    wpAny (model X.prog X.w) X.A (forIn ifs true fun c r => if r = true then do let ok <- isTrue c X.env (eval c X.env); pure (ForInStep.yield ok) else pure (ForInStep.yield r)) (TP X pins st Q) X.xe s
def bTrue : Ev -> M Bool := fun _ => ret true
section
variable {T : Tb} {X : Cx}
theorem fif_nil : FIf T X [] bTrue := by
  intro pins s st H Q I h
  obtain ⟨μ, ρ, σ, hE, hr, hp⟩ := h
  exact wpAny_tests_nil ⟨H, I, zad.here hp hr rfl⟩
theorem un_same {fs ex : List Addr} {H H' : Hp} {h h1 h2 : Heap} {C : Addr} (u : Un fs ex H H' h h1) (hs : Heap.SameBut C h1 h2) (hC : h.objs.size <= C) : Un fs ex H H' h h2 := by
  have ne : ∀ b o, h.get? b = some o -> b ≠ C := fun b o e => Nat.ne_of_lt (Nat.lt_of_lt_of_le (Heap.lt_size e) hC)
  refine ⟨fun b o e n hb hx => (hs.2 b (ne b o e)).trans (u.keep b o e n hb hx), fun b o e n hb hx => ?_, u.free, fun b o e hx => ?_, u.tups, u.frzs, u.tbls⟩
  · obtain ⟨sl, q⟩ := u.slot b o e n hb hx
    exact ⟨sl, (hs.2 b (ne b o e)).trans q⟩
  · obtain ⟨o', q⟩ := u.there b o e hx
    exact ⟨o', (hs.2 b (ne b o e)).trans q⟩
theorem hok_same {P : Program} {w : World} {H : Hp} {h1 h2 : Heap} {C : Addr} (ok : HOk P w H h1) (hs : Heap.SameBut C h1 h2) (hC : H C = none) : HOk P w H h2 := fun b ob e => by
  refine (ok b ob e).stay (fun c w' hc q => (hs.2 c ?_).trans q) (fun _ q => q) fun _ _ q => q
  rintro rfl
  rcases hc with rfl | hc
  · rw [hC] at e; cases e
  · rw [hC] at hc; cases hc
theorem app_rel {E : XK} {μ : List Addr} {H : Hp} {σ : Sto} {n : Nat} {a : Addr} {y : D} {v : V} {Q : VK} (r : Rel T μ H σ) (hn : μ[n]? = some a) (hy : Rep T μ H y v) (h : zad T E (Rep T) μ H (oAppend (.ref n) [y] σ) Q) : rAppend (.ref a) [v] H Q :=
  snd_append E μ H σ (.ref n) [y] (.ref a) [v] Q r (by rw [Rep]; exact ⟨a, rfl, hn⟩) (zaf.cons hy zaf.nil) h
theorem bnd_congr {α β : Type} {m m' : M α} {k : α -> M β} {σ : Sto} (h : m σ = m' σ) : bnd m k σ = bnd m' k σ := by unfold bnd; rw [h]
theorem bnd_assoc {α β γ : Type} {m : M α} {k : α -> M β} {l : β -> M γ} : bnd (bnd m k) l = bnd m fun a => bnd (k a) l := by
  funext σ; unfold bnd; cases m σ <;> rfl
theorem lc_core {E : XK} {elt iter tgt : Expr} {ifs : List Expr} {scope : Scope} {pos : Pos} {x : Str} {M' : List Str} {ix : List Nat} {tg : D -> Ev -> Option Ev} {fi : Ev -> M Bool} {fe : Ev -> M D}
    {pins : List (Addr × Obj)} {st : St} {H3 : Hp} {s3 : Shared} {h₁ : Heap} {t' : Nat} {m : Str -> Option Value} {fp : List Addr} {it D0 : Addr} {tn : Nat -> Heap -> Prop} {J : It} {nx : Src} {μ3 : List Addr} {σ3 : Sto} {ρ : Ev} {n : Nat} {Q : VK}
    (hc : X.calm = true) (L : LcOk X x M' ix scope)
    (htg : ∀ cl C s₀ H₀ ex, FG T (blk X (x :: M') scope cl C s₀ H₀ ex) tgt tg)
    (hif : ∀ cl C s₀ H₀ ex, FIf T (blk X (x :: M') scope cl C s₀ H₀ ex) ifs fi)
    (helt : ∀ cl C s₀ H₀ ex, FE T (blk X (x :: M') scope cl C s₀ H₀ ex) elt fe)
    (I3 : Inv X pins st H3 s3) (hfp : ∀ b ∈ fp, FpOk X pins H3 b /\ b < s3.heap.objs.size) (hns : h₁.Ns s3.heap.objs.size m) (kp : ∀ b o, s3.heap.get? b = some o -> h₁.get? b = some o)
    (TT : Turn X.prog X.w X.K tgt J fp it tn) (hst4 : tn 0 h₁) (so : SrcOk T μ3 H3 nx J) (hE : ERep T μ3 H3 ρ st) (r3 : Rel T μ3 H3 σ3) (hn : μ3[n]? = some D0)
    (p3 : zad T E (Rep T) μ3 H3 (bnd (zby nx n tg fi fe 1001 0 (blkEv ix ρ)) (fun _ => ret (.ref n)) σ3) Q) {RR : Result -> Shared -> Prop}
    (fin : ∀ (s6 : Shared) (H' : Hp) (m6 : Str -> Option Value), s6.heap.Ns s3.heap.objs.size m6 -> H' s3.heap.objs.size = none -> Un (frs X.stack) fp H3 H' s3.heap s6.heap -> s6.os = s3.os -> HOk X.prog X.w H' s6.heap -> AllBare s6.gens -> Q (.ref D0) H' -> RR (.ok .next) s6) :
    codeAny (model X.prog X.w) X.A (.compStart (.ListComp elt [⟨tgt, iter, ifs, 0⟩] scope pos) 0 (.ref it) (.ref D0) (compEnvC scope (clOf X.env scope.names []) s3.heap.objs.size X.env))
      RR { s3 with heap := h₁, toks := t' } := by
  have I4 := blk_start (h' := h₁) (t' := t') I3 L hfp hns kp
  let Y : Cx := blk X (x :: M') scope (clOf X.env scope.names []) s3.heap.objs.size s3 H3 fp
  have stat : ∀ {H' : Hp}, (∀ b ∈ fp, H' b = none) -> ∀ b ∈ fp, FpOk Y [] H' b := fun {H'} hn b hb => ⟨hn b hb, (I4.ok.exf b hb).1, I4.ok.exfs b hb, .inl hb, (I4.ok.exf b hb).2, fun p hp => absurd (show p ∈ ([] : List (Addr × Obj)) from hp) (by simp)⟩
  have loop : codeAny (model X.prog X.w) X.A (.compLoop (.ListComp elt [⟨tgt, iter, ifs, 0⟩] scope pos) 0 (.ref it) (.ref D0) Y.env) RR { s3 with heap := h₁, toks := t' } := by
    refine codeAny_loop rfl (fun k s' => ∃ i μ' H' σ' ρ' st', Inv Y [] st' H' s' /\ tn i s'.heap /\ (∀ b ∈ fp, H' b = none) /\ Ext μ3 H3 μ' H' /\ ERep T μ' H' ρ' st' /\ Rel T μ' H' σ' /\
      zad T E (Rep T) μ' H' (bnd (zby nx n tg fi fe k i ρ') (fun _ => ret (.ref n)) σ') Q) ?_ 1001 ⟨0, μ3, H3, σ3, blkEv ix ρ, blkSt ix st, I4, hst4, fun b hb => (hfp b hb).1.1, Ext.refl _ _, blk_rep ix hE, r3, p3⟩
    rintro k s' ⟨i, μ', H', σ', ρ', st', I', tn', fr', ex', hE', r', p'⟩
    show wpAny _ X.A ((compTurn (.ListComp elt [⟨tgt, iter, ifs, 0⟩] scope pos) 0 (.ref it) (.ref D0) Y.env).onRaise (fun x => do noteFrame x Y.env; theTreesLotGoes x)) _ _ s'
    refine wpAny_noted ?_
    rw [compTurn_list]
    refine wpAny_mono (E := fun _ _ => False) ?_ (fun _ _ z => z) (fun _ _ z => z.elim)
    refine wpAny_bind (wpAny_standAt ?_)
    cases k with
    | zero => exact p'.elim
    | succ k =>
      have so' := so μ' H' σ' i ex' r'
      cases en : nx.nx i σ' with
      | none =>
        have e1 : zby nx n tg fi fe (k + 1) i ρ' σ' = .bad := by unfold zby; simp only [en]
        rw [bnd_congr (m' := bad) e1] at p'
        exact p'.elim
      | some od =>
        rw [en] at so'
        cases od with
        | none =>
          have e1 : zby nx n tg fi fe (k + 1) i ρ' σ' = .ok () σ' := by unfold zby; simp only [en]
          rw [bnd_congr (m' := ret ()) e1] at p'
          refine wpAny_bind (thn (TT.done Y rfl rfl rfl hc i [] s' st' H' (fun _ _ => False) I' (stat fr') tn' so') fun r s6 ⟨er, I6⟩ => ?_)
          subst er
          refine wpAny_pure ?_
          obtain ⟨m6, hm6, _⟩ := I6.loc
          exact fin s6 H' m6 hm6 I6.free I6.base I6.os I6.hok I6.bare (zad.here p' r' (by rw [Rep]; exact ⟨_, rfl, ex'.get hn⟩))
        | some d =>
          refine wpAny_bind (thn (TT.item Y rfl rfl rfl hc i [] s' st' H' (fun _ _ => False) I' (stat fr') tn' so'.1) fun r s6 ⟨u, er, h6⟩ => ?_)
          subst er
          refine wpAny_bind (thn h6 fun _ s7 ⟨xv, H7, I7, r7, y7, tn7, fr7⟩ => ?_)
          obtain ⟨eH, hd⟩ := so'.2 xv H7 y7
          subst eH
          cases et : tg d ρ' with
          | none =>
            have e1 : zby nx n tg fi fe (k + 1) i ρ' σ' = .bad := by unfold zby; simp only [en, et]
            rw [bnd_congr (m' := bad) e1] at p'
            exact p'.elim
          | some ρ1 =>
            have e1 : zby nx n tg fi fe (k + 1) i ρ' σ' = bnd (nox (fi ρ1)) (fun c => if c = true then bnd (nox (fe ρ1)) fun y => bnd (oAppend (.ref n) [y]) fun _ => zby nx n tg fi fe k (i + 1) ρ1 else zby nx n tg fi fe k (i + 1) ρ1) σ' := by
              conv => lhs; unfold zby
              simp only [en, et]
            rw [bnd_congr e1, bnd_assoc] at p'
            have I7' := I7.pinned (stat fr7) (TT.obj _ _ tn7)
            refine wpAny_bind (thn (htg _ _ _ _ _ _ s7 st' H7 xv u (fun st8 H8 => H8 = H7 /\ ERep T μ' H7 ρ1 st8) I7' r7 ⟨μ', σ', ρ', d, ρ1, hE', r', hd, et, fun st8 hE8 => ⟨rfl, hE8⟩⟩) fun _ s8 ⟨st8, H8, I8, eH8, hE8⟩ => ?_)
            subst eH8
            refine wpAny_bind (thn (hif _ _ _ _ _ _ s8 st8 H8 (fun c H9 => ∃ μ9 σ9, Ext μ' H8 μ9 H9 /\ Rel T μ9 H9 σ9 /\ zad T E (Rep T) μ9 H9 (bnd (if c = true then bnd (nox (fe ρ1)) fun y => bnd (oAppend (.ref n) [y]) fun _ => zby nx n tg fi fe k (i + 1) ρ1 else zby nx n tg fi fe k (i + 1) ρ1) (fun _ => ret (.ref n)) σ9) Q) I8
              ⟨μ', ρ1, σ', hE8, r', p'.bind0 fun c σ9 μ9 c' H9 _ e9 r9 q9 p9 => by cases q9; exact ⟨μ9, σ9, e9, r9, p9⟩⟩) fun c s9 ⟨H9, I9, μ9, σ9, e9, r9, p9⟩ => ?_)
            have again : ∀ {s11 : Shared} {H11 : Hp} {μ11 : List Addr} {σ11 : Sto}, Inv Y ([] ++ pinsAt fp s7.heap) st8 H11 s11 -> Ext μ' H8 μ11 H11 -> Rel T μ11 H11 σ11 -> zad T E (Rep T) μ11 H11 (bnd (zby nx n tg fi fe k (i + 1) ρ1) (fun _ => ret (.ref n)) σ11) Q ->
                ∃ m, m < k + 1 /\ ∃ i μ' H' σ' ρ' st', Inv Y [] st' H' s11 /\ tn i s11.heap /\ (∀ b ∈ fp, H' b = none) /\ Ext μ3 H3 μ' H' /\ ERep T μ' H' ρ' st' /\ Rel T μ' H' σ' /\ zad T E (Rep T) μ' H' (bnd (zby nx n tg fi fe m i ρ') (fun _ => ret (.ref n)) σ') Q := by
              intro s11 H11 μ11 σ11 I11 e11 r11 p11
              refine ⟨k, Nat.lt_succ_self _, i + 1, μ11, H11, σ11, ρ1, st8, I11.unpinned, TT.keep _ _ _ tn7 (fun b hb o e => (I11.pin (b, o) (List.mem_append_right _ (List.mem_append_right _ (mem_pinsAt hb e)))).1), fun b hb => ?_, ex'.trans e11, hE8.mono e11, r11, p11⟩
              obtain ⟨o, e, _⟩ := TT.obj _ _ tn7 b hb
              exact (I11.pin (b, o) (List.mem_append_right _ (List.mem_append_right _ (mem_pinsAt hb e)))).2.1
            cases c with
            | false =>
              rw [if_neg Bool.false_ne_true] at p9
              exact wpAny_pure ⟨rfl, again I9 e9 r9 p9⟩
            | true =>
              rw [if_pos rfl, bnd_assoc] at p9
              refine wpAny_bind (wpAny_bind (thn (helt _ _ _ _ _ _ s9 st8 H9 (fun v H10 => ∃ y μ10 σ10, Ext μ' H8 μ10 H10 /\ Rel T μ10 H10 σ10 /\ Rep T μ10 H10 y v /\ zad T E (Rep T) μ10 H10 (bnd (oAppend (.ref n) [y]) (fun _ => bnd (zby nx n tg fi fe k (i + 1) ρ1) (fun _ => ret (.ref n))) σ10) Q) I9
                ⟨μ9, ρ1, σ9, hE8.mono e9, r9, p9.bind0 fun y σ10 μ10 v H10 _ e10 r10 q10 p10 => ⟨y, μ10, σ10, e9.trans e10, r10, q10, by rw [bnd_assoc] at p10; exact p10⟩⟩) fun w s10 ⟨v, H10, I10, rw10, y, μ10, σ10, e10, r10, q10, p10⟩ => ?_))
              have happ := app_rel (Q := fun _ H11 => ∃ μ11 σ11, Ext μ' H8 μ11 H11 /\ Rel T μ11 H11 σ11 /\ zad T E (Rep T) μ11 H11 (bnd (zby nx n tg fi fe k (i + 1) ρ1) (fun _ => ret (.ref n)) σ11) Q) r10 ((ex'.trans e10).get hn) q10
                (p10.bind fun _ σ11 μ11 v11 H11 _ e11 r11 q11 p11 => ⟨μ11, σ11, e10.trans e11, r11, p11⟩)
              refine wpAny_bind (thn (mt_append (X := Y) _ s10 st8 H10 (.ref D0) [v] (.ref D0) [w] _ I10 rfl (.cons rw10 .nil) happ) fun _ s11 ⟨v11, H11, I11, _, μ11, σ11, e11, r11, p11⟩ => ?_)
              exact wpAny_pure (wpAny_pure ⟨rfl, again I11 e11 r11 p11⟩)
  exact codeAny_compStart_list loop (TT.self X.A 0 _ _ _ hst4 loop)
theorem fe_lc {elt iter tgt : Expr} {ifs : List Expr} {scope : Scope} {pos : Pos} {x : Str} {M' : List Str} {ix : List Nat} {src : Ev -> M Src} {tg : D -> Ev -> Option Ev} {fi : Ev -> M Bool} {fe : Ev -> M D}
    (hc : X.calm = true) (L : LcOk X x M' ix scope) (hsrc : FI T X tgt iter src)
    (htg : ∀ cl C s₀ H₀ ex, FG T (blk X (x :: M') scope cl C s₀ H₀ ex) tgt tg)
    (hif : ∀ cl C s₀ H₀ ex, FIf T (blk X (x :: M') scope cl C s₀ H₀ ex) ifs fi)
    (helt : ∀ cl C s₀ H₀ ex, FE T (blk X (x :: M') scope cl C s₀ H₀ ex) elt fe)
    (hs : ∀ y, foldedSetIterable iter X.env y = pure y := by intro _; rfl) :
    FE T X (.ListComp elt [⟨tgt, iter, ifs, 0⟩] scope pos) (eLC src ix tg fi fe) := by
  intro pins s st H Q I h
  obtain ⟨μ, ρ, σ, hE, hr, hp⟩ := h
  rw [eval_ListComp]
  refine wpAny_comprehension_free (use := none) rfl hs (closure_is X.env scope (clos_of I L)) L.kind (fun y hy e => ?_) ?_
  · have q := List.all_eq_true.mp L.names y hy
    rw [e] at q
    simp only [beq_self_eq_true, Bool.not_true, Bool.false_or] at q
    exact eq_of_beq q
  have h1 := hsrc pins s st H (fun J H2 => ∃ nx μ2 σ2, Ext μ H μ2 H2 /\ Rel T μ2 H2 σ2 /\ SrcOk T μ2 H2 nx J /\ zad T (XE X st) (Rep T) μ2 H2 (bnd (zby nx σ2.length tg fi fe 1001 0 (blkEv ix ρ)) (fun _ => ret (.ref σ2.length)) (σ2 ++ [Ob.lst []])) Q) I
    ⟨μ, ρ, σ, hE, hr, hp.bind fun nx σ1 μ1 J H1 _ e1 r1 q1 p1 => ⟨nx, μ1, σ1, e1, r1, q1, p1⟩⟩
  refine thn h1 fun v s1 h2 => thn h2 fun itv s2 h3 => ?_
  obtain ⟨it, fp, tn, J, H2, rfl, I2, TT, st2, f2, nx, μ2, σ2, ex2, r2, so, p2⟩ := h3
  refine wpAny_newObj_type (wpAny_newFunctionEnv (nocell L) (by intro y hy; simp at hy) (fun h₁ hns₁ hsb₁ => ?_) L.kind)
  have I3 := I2.lnew (ys := []) (its := []) (t' := s2.toks) .nil (by simp)
  have fr2 : H2 s2.heap.objs.size = none := I2.hok.fresh (Nat.le_refl _)
  have r3 := r2.push (p := s2.heap.objs.size) (o := .lst []) (ob := .lst []) fr2 ⟨[], upd_same, zaf.nil⟩
  have ex3 : Ext μ2 H2 (μ2 ++ [s2.heap.objs.size]) (upd H2 s2.heap.objs.size (.lst [])) := ext_push fr2
  have hsz : s2.heap.objs.size < (s2.heap.push { cls := .type "list", data := .seq ([] : List Value).toArray }).objs.size := by rw [Heap.size_push]; exact Nat.lt_succ_self _
  have kp : ∀ b o, (s2.heap.push { cls := .type "list", data := .seq ([] : List Value).toArray }).get? b = some o -> h₁.get? b = some o := fun b o e => hsb₁.extBut b o (Nat.ne_of_lt (Heap.lt_size e)) (Heap.get?_push_of_some _ e)
  have hfp : ∀ b ∈ fp, FpOk X pins (upd H2 s2.heap.objs.size (.lst [])) b /\ b < (s2.heap.push { cls := .type "list", data := .seq ([] : List Value).toArray }).objs.size := fun b hb => by
    obtain ⟨o, e, _⟩ := TT.obj 0 _ st2 b hb
    have lt := Heap.lt_size e
    exact ⟨⟨by rw [upd_ne (Nat.ne_of_lt lt)]; exact (f2 b hb).1, (f2 b hb).2⟩, Nat.lt_trans lt hsz⟩
  refine lc_core (s3 := { s2 with heap := s2.heap.push { cls := .type "list", data := .seq ([] : List Value).toArray }, toks := s2.toks }) (n := σ2.length) (D0 := s2.heap.objs.size) hc L htg hif helt I3 hfp hns₁ kp TT (TT.keep 0 _ _ st2 fun b hb o e => kp b o (Heap.get?_push_of_some _ e))
    (fun μ H σ i ex r => so μ H σ i (ex3.trans ex) r) ((hE.mono ex2).mono ex3) r3 (by rw [<- r2.len]; simp) (p2.mono ex3) (fun s6 H' m6 hm6 hC' hu0 hos hok6 hb6 hq => ⟨m6, hm6, fun h7 hs7 => ?_⟩)
  have hu := un_same hu0 hs7 (Nat.le_refl _)
  have I7 := L2.Inv.call' (s' := { s6 with heap := h7 }) (ch := fp) I3 hos hu (hok_same hok6 hs7 hC') hb6 (fun b hb => ⟨(hfp b hb).1.2.2.2.1, (hfp b hb).1.2.1, (hfp b hb).1.2.2.2.2.1, (hfp b hb).1.2.2.2.2.2⟩)
  exact ⟨.ref s2.heap.objs.size, H', I7, rfl, hq⟩
theorem fs_setLC {elt iter tgt : Expr} {ifs : List Expr} {scope : Scope} {pos spos py : Pos} {x y : Str} {i : Nat} {M' : List Str} {ix : List Nat} {src : Ev -> M Src} {tg : D -> Ev -> Option Ev} {fi : Ev -> M Bool} {fe : Ev -> M D}
    (hN : X.N.Nodup) (hi : X.N[i]? = some y) (hx : Loc X.env.scope y)
    (hc : X.calm = true) (L : LcOk X x M' ix scope) (hsrc : FI T X tgt iter src)
    (htg : ∀ cl C s₀ H₀ ex, FG T (blk X (x :: M') scope cl C s₀ H₀ ex) tgt tg)
    (hif : ∀ cl C s₀ H₀ ex, FIf T (blk X (x :: M') scope cl C s₀ H₀ ex) ifs fi)
    (helt : ∀ cl C s₀ H₀ ex, FE T (blk X (x :: M') scope cl C s₀ H₀ ex) elt fe)
    (hs : ∀ y, foldedSetIterable iter X.env y = pure y := by intro _; rfl)
    (hsw : swapsWith (.ListComp elt [⟨tgt, iter, ifs, 0⟩] scope pos) (some (.Name y py)) spos.line X.env = pure true := by rfl)
    (hf : X.fn y = true \/ X.env.scope.names.lookup y = some .local := by first | exact .inl rfl | exact .inr rfl | assumption) :
    FS T X (.Assign [.Name y py] (.ListComp elt [⟨tgt, iter, ifs, 0⟩] scope pos) spos) (sSet i (eLC src ix tg fi fe)) := by
  intro pins s st H D I h
  obtain ⟨μ, ρ, σ, hE, hr, hp0⟩ := h
  have hp : zad T (XE X st) (Rep T) μ H (eLC src ix tg fi fe ρ σ) (fun v H1 => D.nx (st.set i (some v)) H1) := hp0.xs hE fun d σ1 μ1 v H1 _ e1 r1 q1 p1 => zad.here (g := Gl2.nx (st.set i (some v))) p1 r1 ((hE.mono e1).set i q1)
  rw [exec_Assign_Name_used _ _ _ _ hsw]
  refine wpAny_bind (wpAny_standAt (wpAny_bind ?_))
  show wpAny _ X.A (do let _ <- comprehension (.ListComp elt [⟨tgt, iter, ifs, 0⟩] scope pos) scope X.env _ (newList []) false (eval iter X.env) (some (assign (.Name y py) X.env))) _ _ s
  refine wpAny_bind (wpAny_mono (wpAny_comprehension_free (use := some (assign (.Name y py) X.env)) (Q := fun _ s' => SP X pins D .next s') rfl hs (closure_is X.env scope (clos_of I L)) L.kind (fun y hy e => ?_)
    ?_) (fun _ s' hq => wpAny_pure (wpAny_pure hq)) fun _ _ e => e)
  · have q := List.all_eq_true.mp L.names y hy
    rw [e] at q
    simp only [beq_self_eq_true, Bool.not_true, Bool.false_or] at q
    exact eq_of_beq q
  have h1 := hsrc pins s st H (fun J H2 => ∃ nx μ2 σ2, Ext μ H μ2 H2 /\ Rel T μ2 H2 σ2 /\ SrcOk T μ2 H2 nx J /\ zad T (XE X st) (Rep T) μ2 H2 (bnd (zby nx σ2.length tg fi fe 1001 0 (blkEv ix ρ)) (fun _ => ret (.ref σ2.length)) (σ2 ++ [Ob.lst []])) (fun v H1 => D.nx (st.set i (some v)) H1)) I
    ⟨μ, ρ, σ, hE, hr, hp.bind fun nx σ1 μ1 J H1 _ e1 r1 q1 p1 => ⟨nx, μ1, σ1, e1, r1, q1, p1⟩⟩
  refine thn h1 fun v s1 h2 => thn h2 fun itv s2 h3 => ?_
  obtain ⟨it, fp, tn, J, H2, rfl, I2, TT, st2, f2, nx, μ2, σ2, ex2, r2, so, p2⟩ := h3
  refine wpAny_newObj_type (wpAny_newFunctionEnv (nocell L) (by intro y hy; simp at hy) (fun h₁ hns₁ hsb₁ => ?_) L.kind)
  have I3 := I2.lnew (ys := []) (its := []) (t' := s2.toks) .nil (by simp)
  have fr2 : H2 s2.heap.objs.size = none := I2.hok.fresh (Nat.le_refl _)
  have r3 := r2.push (p := s2.heap.objs.size) (o := .lst []) (ob := .lst []) fr2 ⟨[], upd_same, zaf.nil⟩
  have ex3 : Ext μ2 H2 (μ2 ++ [s2.heap.objs.size]) (upd H2 s2.heap.objs.size (.lst [])) := ext_push fr2
  have hsz : s2.heap.objs.size < (s2.heap.push { cls := .type "list", data := .seq ([] : List Value).toArray }).objs.size := by rw [Heap.size_push]; exact Nat.lt_succ_self _
  have kp : ∀ b o, (s2.heap.push { cls := .type "list", data := .seq ([] : List Value).toArray }).get? b = some o -> h₁.get? b = some o := fun b o e => hsb₁.extBut b o (Nat.ne_of_lt (Heap.lt_size e)) (Heap.get?_push_of_some _ e)
  have hfp : ∀ b ∈ fp, FpOk X pins (upd H2 s2.heap.objs.size (.lst [])) b /\ b < (s2.heap.push { cls := .type "list", data := .seq ([] : List Value).toArray }).objs.size := fun b hb => by
    obtain ⟨o, e, _⟩ := TT.obj 0 _ st2 b hb
    have lt := Heap.lt_size e
    exact ⟨⟨by rw [upd_ne (Nat.ne_of_lt lt)]; exact (f2 b hb).1, (f2 b hb).2⟩, Nat.lt_trans lt hsz⟩
  refine lc_core (s3 := { s2 with heap := s2.heap.push { cls := .type "list", data := .seq ([] : List Value).toArray }, toks := s2.toks }) (n := σ2.length) (D0 := s2.heap.objs.size) hc L htg hif helt I3 hfp hns₁ kp TT (TT.keep 0 _ _ st2 fun b hb o e => kp b o (Heap.get?_push_of_some _ e))
    (fun μ H σ i ex r => so μ H σ i (ex3.trans ex) r) ((hE.mono ex2).mono ex3) r3 (by rw [<- r2.len]; simp) (p2.mono ex3) (fun s6 H' m6 hm6 hC' hu0 hos hok6 hb6 hq => ?_)
  have I6 := L2.Inv.call' (s' := s6) (ch := fp) I3 hos hu0 hok6 hb6 (fun b hb => ⟨(hfp b hb).1.2.2.2.1, (hfp b hb).1.2.1, (hfp b hb).1.2.2.2.2.1, (hfp b hb).1.2.2.2.2.2⟩)
  have ltL : X.env.locals < (s2.heap.push { cls := .type "list", data := .seq ([] : List Value).toArray }).objs.size := I3.lt
  have ltC : ∀ z c, X.env.cells.lookup z = some c -> c < (s2.heap.push { cls := .type "list", data := .seq ([] : List Value).toArray }).objs.size := fun z c e => by
    obtain ⟨v, q⟩ := I3.cell z c e; exact q.lt
  show wpAny _ X.A (assign (.Name y py) X.env (.ref s2.heap.objs.size)) _ _ s6
  refine wpAny_assign_Name (store_ok2 (v := .ref s2.heap.objs.size) I6 hN hi hx rfl (fun s7 I7 ⟨a, sb, ha⟩ => ?_) hf)
  have neC : a ≠ (s2.heap.push { cls := .type "list", data := .seq ([] : List Value).toArray }).objs.size := by
    rcases ha with rfl | ha
    · exact Nat.ne_of_lt ltL
    · exact Nat.ne_of_lt (ltC _ _ ha)
  refine ⟨m6, hm6.sameBut sb (Ne.symm neC), fun h8 hs8 => ?_⟩
  refine ⟨st.set i (some (.ref s2.heap.objs.size)), H', ?_, hq⟩
  exact I7.turned (t' := s7.toks) (it := (s2.heap.push { cls := .type "list", data := .seq ([] : List Value).toArray }).objs.size) (fun b o hb e => (hs8.2 b hb).trans e) hC' (Nat.ne_of_gt ltL) (.inr (Nat.le_trans I3.sz (Nat.le_refl _))) (fun z c e => Nat.ne_of_lt (ltC z c e)) (fun p hp => Nat.ne_of_lt (Heap.lt_size (I3.pin p hp).1))
end
end L4
namespace L4
open PySem PySem.Spec PyProof.Rows L2
def oAddL (x y : D) : M D := fun σ => match lsOf σ x, lsOf σ y with
  | some xs, some ys => if xs.length + ys.length <= cap then .ok (.lst (xs ++ ys)) σ else .bad
  | _, _ => .bad
def oAdd (x y : D) : M D := match x, y with
  | .int i, .int j => ret (.int (i + j))
  | .tup xs, .tup ys => if xs.length + ys.length <= cap then ret (.tup (xs ++ ys)) else bad
  | .str a, .str b => if a.length + b.length <= 100000 then ret (.str (a ++ b)) else bad
  | x, y => oAddL x y
theorem str_small {n : Nat} (h : n <= 100000) : n <= sizeLine := Nat.le_trans h (by decide)
section
variable {T : Tb} {X : Cx} {a b c : Expr} {fa fb fc : Ev -> M D} {pos : Pos}
theorem cat_tup0 {prog : Program} {w : World} {A : Around} {F : Value -> Shared -> Prop} {s : Shared} {t b : Addr} {ws : List Value} {Q : Value -> Shared -> Prop} (ht : IsTup s.heap t (#[] : Array Value)) (hb : IsTup s.heap b ws.toArray) (h1 : Q (.ref b) s) : wpAny (model prog w) A (binaryOp .Add (.ref t) (.ref b)) Q F s := by
  obtain ⟨⟨cls, dd, data, sl⟩, ho, hc, n, hd⟩ := id ht
  obtain ⟨⟨cls2, dd2, data2, sl2⟩, ho2, hc2, n2, hd2⟩ := id hb
  simp only at hc hd hc2 hd2
  subst hc hd hc2 hd2
  exact concat_meets ⟨_, ho, rfl⟩ ⟨_, ho2, rfl⟩ noFill_tuple_add seq_tuple_add PySem.F.slot_tuple_add PySem.F.entry_tuple_add (PySem.F.args_tuple_add_2 _ _)
    (tuple_addW0 t b #[] ws.toArray n n2 dd dd2 sl sl2 rfl) ⟨ho, ho2, h1⟩
theorem addL_snd {E : XK} {μ : List Addr} {H : Hp} {σ : Sto} {x y : D} {v u : V} {v' u' : Value} {Q : VK} {pins : List (Addr × Obj)} {s : Shared} {st : St} (I : Inv X pins st H s) (rv : zae v v') (ru : zae u u') (r : Rel T μ H σ) (hx : Rep T μ H x v) (hy : Rep T μ H y u) (hp : zad T E (Rep T) μ H (oAddL x y σ) Q) :
    wpAny (model X.prog X.w) X.A (binaryOp .Add v' u') (EP X pins st Q) X.xe s := by
  unfold oAddL at hp
  cases e1 : lsOf σ x with
  | none => rw [e1] at hp; exact hp.elim
  | some xs =>
    cases e2 : lsOf σ y with
    | none => rw [e1, e2] at hp; exact hp.elim
    | some ys =>
      rw [e1, e2] at hp
      dsimp only at hp
      by_cases hc : xs.length + ys.length <= cap
      · rw [if_pos hc] at hp
        obtain ⟨p, vs, rfl, h1, h2⟩ := r.ls hx e1
        obtain ⟨q, ws, rfl, h3, h4⟩ := r.ls hy e2
        exact op_cat pins s st H _ _ v' u' Q I rv ru ⟨p, q, vs, ws, rfl, rfl, h1, h3, by rw [<- h2.length, <- h4.length]; exact cap_le hc, fun l hl => new_lv hp r (zaf.append h2 h4) hl⟩
      · rw [if_neg hc] at hp; exact hp.elim
theorem zcl (hK : T.K = X.K) : OpR X (binaryOp .Add) (rD T oAdd) := by
  intro pins s st H v u v' u' Q I rv ru h
  obtain ⟨E, μ, σ, x, y, r, hx, hy, hp⟩ := h
  cases x with
  | int i =>
    cases y with
    | int j => exact op_add pins s st H v u v' u' Q I rv ru ⟨i, j, zbv hx, zbv hy, zad.here hp r (by rw [Rep])⟩
    | _ => exact addL_snd I rv ru r hx hy hp
  | str a =>
    cases y with
    | str b =>
      unfold oAdd at hp
      dsimp only at hp
      by_cases hc : a.length + b.length <= 100000
      · rw [if_pos hc] at hp
        exact op_add_str pins s st H v u v' u' Q I rv ru ⟨a, b, by simpa [Rep] using hx, by simpa [Rep] using hy, str_small hc, zad.here hp r (by rw [Rep])⟩
      · rw [if_neg hc] at hp; exact hp.elim
    | _ => exact addL_snd I rv ru r hx hy hp
  | tup xs =>
    cases y with
    | tup ys =>
      unfold oAdd at hp
      dsimp only at hp
      by_cases hc : xs.length + ys.length <= cap
      · rw [if_pos hc] at hp
        have hx0 := hx
        have hy0 := hy
        rw [Rep] at hx hy
        obtain ⟨p, vs, rfl, h1, h2⟩ := hx
        obtain ⟨q, ws, rfl, h3, h4⟩ := hy
        cases vs with
        | nil =>
          have e0 : xs = [] := by have := h2.length; simpa using this
          subst e0
          cases rv; cases ru
          obtain ⟨its, q1, t1, _⟩ := L2.Inv.tuple I (SqT.of (K := X.K) h1)
          obtain ⟨its2, q2, t2, _⟩ := L2.Inv.tuple I (SqT.of (K := X.K) h3)
          cases q1
          exact cat_tup0 t1 t2 ⟨.ref q, H, I, rfl, zad.here hp r (by simpa using hy0)⟩
        | cons v0 vr =>
          refine op_catT pins s st H _ _ v' u' Q I rv ru ⟨p, q, _, ws, rfl, rfl, SqT.of h1, SqT.of h3, by simp, ?_, fun e => ?_, fun e l hl => ?_⟩
          · rw [<- h2.length, <- h4.length]; exact cap_le hc
          · subst e
            have e0 : ys = [] := by have := h4.length; simpa using this
            subst e0
            exact zad.here hp r (by simpa using hx0)
          · exact new_tup hp r (zaf.append h2 h4) hl
      · rw [if_neg hc] at hp; exact hp.elim
    | _ => exact addL_snd I rv ru r hx hy hp
  | _ => exact addL_snd I rv ru r hx hy hp
def chain2 (o' : D -> D -> M D) (c : M D) (y : D) : D -> M D := testK (ifK (bnd c (o' y)) (ret (.bl false)))
def chainB (o o' : D -> D -> M D) (c : M D) (x y : D) : M D := bnd (o x y) (chain2 o' c y)
def chain1 (o o' : D -> D -> M D) (b c : M D) (x : D) : M D := bnd b (chainB o o' c x)
def eChain (o o' : D -> D -> M D) (a b c : Ev -> M D) : Ev -> M D := fun ρ => bnd (a ρ) (chain1 o o' (b ρ) (c ρ))
theorem fe_chain {op op' : CmpOp} {r r' : R2} {o o' : D -> D -> M D} (ho : OpR X (compareOp op) r) (hs : SndOp T r o) (ho' : OpR X (compareOp op') r') (hs' : SndOp T r' o') (ha : FE T X a fa) (hb : FE T X b fb) (hc : FE T X c fc)
    (hm : lastMarks [op, op'] [b, c] = false := by with_unfolding_all rfl) : FE T X (.Compare a [op, op'] [b, c] pos) (eChain o o' fa fb fc) := by
  intro pins s st H Q I h
  refine pe_chain ho ho' ha hb hc hm pins s st H Q I ?_
  obtain ⟨μ, ρ, σ, hE, hr, hp⟩ := h
  refine ⟨μ, ρ, σ, hE, hr, hp.bind fun x σ1 μ1 v H1 _ e1 r1 q1 p1 => ⟨μ1, ρ, σ1, hE.mono e1, r1, p1.bind fun y σ2 μ2 w H2 _ e2 r2 q2 p2 => ?_⟩⟩
  refine hs _ μ2 H2 σ2 x y v w _ r2 (Rep.mono e2 _ _ q1) q2 (p2.bind fun z σ3 μ3 u H3 _ e3 r3 q3 p3 => ?_)
  obtain ⟨k, rfl, ev, p4⟩ := tst_bl q3 p3
  refine ⟨k, ev, ?_⟩
  cases k with
  | true =>
    unfold ifK at p4; rw [if_pos rfl] at p4 ⊢
    exact ⟨μ3, ρ, σ3, ((hE.mono e1).mono e2).mono e3, r3, p4.bind fun z σ5 μ5 u5 H5 _ e5 r5 q5 p5 => hs' _ μ5 H5 σ5 y z w u5 Q r5 (Rep.mono e5 _ _ (Rep.mono e3 _ _ q2)) q5 p5⟩
  | false => unfold ifK at p4; rw [if_neg Bool.false_ne_true] at p4 ⊢; exact zad.here p4 r3 (by rw [Rep])
theorem hu9 {k : Nat} {A : Around} (hr : Room k A) : A.units + 9 < cLine := by have := hr.un; omega
end
end L4
namespace L4
open PySem PySem.Spec PyProof.Rows L2
def zaa (K : PySem.W.Frag) (mg : Str -> Option Value) (x : Str) (st : Stmt) (ps : List Str) : Prop :=
  ∃ f fd, mg x = some (.ref f) /\ Fun K x x st f fd /\ ∀ us : List Value, us.length = ps.length -> bindArgs fd ⟨us, []⟩ = pure (ps.zip us)
def OkF (T : Tb) (P : Program) (w : World) (mg : Str -> Option Value) (base : Heap) (k : Nat) (x : Str) (ps : List Str) (fn : List D -> M D) : Prop :=
  ∃ f fd, mg x = some (.ref f) /\ PySem.W.keepIn T.K (.ref f) = true /\ (∀ us : List Value, us.length = ps.length -> bindArgs fd ⟨us, []⟩ = pure (ps.zip us)) /\ FnOk P w T.K mg base (CXE P w) k f fd ps (spF T ps.length fn)
section
variable {T : Tb} {X : Cx}
theorem zaw {k : Nat} {ps : List Str} {fn : List D -> M D} {x : Str} {p pos : Pos} {e : Expr} {es : List Expr} {fs : Ev -> M (List D)} (h : OkF T X.prog X.w X.mg X.base k x ps fn) (hK : T.K = X.K) (hr : Room k X.A) (hg : Gl X x)
    (ha : FA T X (e :: es) fs) (hdb : (x == ("__debug__" : Str)) = false := by decide) (he : starEach (e :: es) X.env = (false, eval e X.env) :: starEach es X.env := by rfl) (hpl : (backTo pos (starEach es X.env)).any (·.1) = false := by rfl) :
    FE T X (.Call (.Name x p) (e :: es) [] pos) (eFn ps.length fn [] fs) := by
  obtain ⟨f, fd, hm, hk, hb, hF⟩ := h
  rw [hK] at hk hF
  exact fe_call (dds := []) (dvs := []) hF hr hg hm hk (.all hb) .nil (fun _ _ => zaf.nil) ha hdb he hpl
variable {P : Program} {w : World} {K : PySem.W.Frag} {mg : Str -> Option Value} {base : Heap} {ca : Nat -> Addr}
theorem zck {k : Nat} {x : Str} {st : Stmt} {ps N : List Str} {g : Ev -> M Fl} (h : zaa K mg x st ps) (S : FnScope N ps (zao st))
    (hb : ∀ (f : Addr) (cdv : Value) (A : Around) (outer : List Env) (s : Shared) (H : Hp) (E : XK), Room k (A.deeper (envOfC x (zao st) s.heap.objs.size f cdv)) -> FSs ⟨K, ca⟩ (cxOf (CXE P w) P w K mg base N x (zao st) f cdv A outer s H E) (zan st) g) :
    OkF ⟨K, ca⟩ P w mg base (k + 1) x ps (run N.length g) := by
  obtain ⟨f, fd, hm, F, hbd⟩ := h
  obtain ⟨oc, od, kV, doc, pm, an, cdv, ct, osl, rfl, lk, hcd⟩ := F.ex
  exact ⟨f, _, hm, F.kp, hbd, fok lk hcd S (hb f cdv)⟩
theorem OkF.frz {k : Nat} {x : Str} {ps : List Str} {fn : List D -> M D} (h : OkF T P w mg base k x ps fn) : OkF T P w mg base k x ps (fun ds => L4.frz (fn ds)) := by
  obtain ⟨f, fd, h1, h2, h3, h4⟩ := h
  exact ⟨f, fd, h1, h2, h3, fok_frz h4⟩
theorem mkF {h : Heap} {x : Str} {st : Stmt} {ps : List Str} {f : Addr} {oc : Value} {od an : Option Addr} {osl : Array (Option Value)} {kV doc pm cdv ct : Value} (X : K.In h) (G : h.Ns mainGlobals mg)
    (hb : ∀ (kV doc pm : Value) (an : Option Addr) (cdv ct : Value) (us : List Value), us.length = ps.length -> bindArgs (PySem.W.fnOf x x (zam st) (zan st) (zao st) .none kV doc pm an cdv ct) ⟨us, []⟩ = pure (ps.zip us))
    (a : PySem.W.nsIn K mainGlobals x = some (some (.ref f))) (l : K.lookup f = some ⟨oc, od, .func (PySem.W.fnOf x x (zam st) (zan st) (zao st) .none kV doc pm an cdv ct), osl⟩)
    (c : PySem.W.codeIn K cdv x = true) (k : PySem.W.keepIn K (.ref f) = true) : zaa K mg x st ps :=
  ⟨f, _, PySem.W.mg_of X G a, fun_mk l c k, hb kV doc pm an cdv ct⟩
theorem mkI {h : Heap} {x : Str} {i : Int} {t : Tok} (X : K.In h) (G : h.Ns mainGlobals mg) (a : PySem.W.nsIn K mainGlobals x = some (some (.int i t))) : ∃ t, mg x = some (.int i t) := ⟨t, PySem.W.mg_of X G a⟩
end
theorem scr_of {K : PySem.W.Frag} {H : Hp} {a : Addr} {ns : List Int} (hO : Only H) (h : SqL K H a (ns.map V.int)) : Scr K H a ns := by
  rcases h with (h | ⟨o, h⟩) | h
  · rcases hO a with z | ⟨o, xs, z⟩
    · rw [z] at h; cases h
    · rw [z] at h; cases h
  · exact .inl ⟨o, h⟩
  · exact .inr h
def sp0 (K : PySem.W.Frag) : Sp := fun vs H Q E => ∃ (a : Addr) (ns : List Int), vs = [.ref a] /\ ns.length <= 63 /\ Only H /\ SqL K H a (ns.map V.int) /\ ∀ v H', v = .bl true -> Q v H'
theorem sp0_of {K : PySem.W.Frag} {ca : Nat -> Addr} {fn : List D -> M D} (tr : ∀ ns : List Int, ns.length <= 63 -> ∃ σ, fn [.scr ns] [] = .ok (.bl true) σ) {vs : List V} {H : Hp} {Q : VK} {E : XK} (h : sp0 K vs H Q E) : spF ⟨K, ca⟩ 1 fn vs H Q E := by
  obtain ⟨a, ns, rfl, hl, hO, hS, hq⟩ := h
  obtain ⟨σ, e⟩ := tr ns hl
  refine ⟨[], [], [.scr ns], zaf.cons (by rw [Rep]; exact ⟨a, rfl, scr_of hO hS⟩) zaf.nil, rfl, ⟨rfl, List.nodup_nil, fun n o q => by simp at q⟩, ?_⟩
  rw [e]
  intro μ' v H' _ _ r
  rw [Rep] at r
  exact hq v H' r
def OkL (T : Tb) (P : Program) (w : World) (mg : Str -> Option Value) (k : Nat) (x : Str) (ps : List Str) (fn : List D -> M D) : Prop :=
  ∃ f fd, mg x = some (.ref f) /\ (∀ us : List Value, us.length = ps.length -> bindArgs fd ⟨us, []⟩ = pure (ps.zip us)) /\ ∀ base : Heap, FnOk P w T.K mg base (CXE P w) k f fd ps (spF T ps.length fn)
theorem ok_ofL {P : Program} {w : World} {K : PySem.W.Frag} {mg : Str -> Option Value} {ca : Nat -> Addr} {k : Nat} {x : Str} {st : Stmt} {ps N : List Str} {g : Ev -> M Fl} (h : zaa K mg x st ps) (S : FnScope N ps (zao st))
    (hb : ∀ (base : Heap) (f : Addr) (cdv : Value) (A : Around) (outer : List Env) (s : Shared) (H : Hp) (E : XK), Room k (A.deeper (envOfC x (zao st) s.heap.objs.size f cdv)) -> FSs ⟨K, ca⟩ (cxOf (CXE P w) P w K mg base N x (zao st) f cdv A outer s H E) (zan st) g) :
    OkL ⟨K, ca⟩ P w mg (k + 1) x ps (run N.length g) := by
  obtain ⟨f, fd, hm, F, hbd⟩ := h
  obtain ⟨oc, od, kV, doc, pm, an, cdv, ct, osl, rfl, lk, hcd⟩ := F.ex
  exact ⟨f, _, hm, hbd, fun base => fok lk hcd S (hb base f cdv)⟩
theorem walkL {l : PySem.W.OpenLaw} {q : Program} {loose : List Str} {XP : (Str -> Option Value) -> Heap -> Prop} {YP : World -> Heap -> Prop} {d : DefRec} {K : Params -> PySem.W.Frag} {k : Nat} {x : Str} {fn : List D -> M D}
    (hn : l.most = some 63) (hdf : d.params.defaults = []) (hr : Room k callerA) (hY : ∀ (w : World) (h : Heap), YP w h -> (K w.params).In h)
    (F : ∀ (w : World) (mg : Str -> Option Value) (h : Heap), (K w.params).In h -> h.Ns mainGlobals mg -> ∃ ca, OkL ⟨K w.params, ca⟩ l.prog w mg k d.name [x] fn)
    (tr : ∀ ns : List Int, ns.length <= 63 -> ∃ σ, fn [.scr ns] [] = .ok (.bl true) σ) :
    PySem.W.WalkO q loose XP YP l.row.toRowW d [] (fun f vs => PySem.call f vs) := by
  refine L2.walk_of (n := 63) (k := k) (x := x) (CX := fun w => CXE l.prog w) (sp := fun w => sp0 (K w.params)) hn (by decide) hdf hr hY (fun w mg fa h KX G hmg => ?_) (fun w H a ns hl hO hS => ⟨a, ns, rfl, hl, hO, hS, fun _ _ e => e⟩) (fun w H s e s' z => ?_)
  · obtain ⟨ca, f0, fd0, g1, g3, g4⟩ := F w mg h KX G
    rw [hmg] at g1; cases g1
    exact ⟨fd0, fun s u => .of_eq (g3 [u] rfl), fun base hb hg => (g4 base).imp fun vs H Q E z => sp0_of tr z⟩
  · obtain ⟨cls, H', _, z⟩ := z
    exact z
end L4
namespace L4
open PySem PySem.Spec PyProof.Rows L2
theorem exc_obj {K : PySem.W.Frag} {h : Heap} {C : Addr} {bmB : List Value} {newId : String} (KX : K.In h) (hq : PySem.W.excIn K C bmB newId = true) :
    ∃ bm N nm qn bs hdct sn sub ab col dd k0 k1 k2 k3 k5 mN, h.get? C = some (excClassObj nm qn C N bs bm hdct sn sub ab col dd k0 k1 k2 k3 k5 newId) /\ h.Ns N mN /\ mN "__init__" = none /\ OwnTail h bmB bm := by
  unfold PySem.W.excIn at hq
  split at hq
  · rename_i dd data sl lk
    split at hq
    · rename_i C2 bm k0 k1 k2 k3 nid k5 emro esl
      have hq1 : ((((C2 = C /\ nid = newId) /\ data.hasDel = false) /\ PySem.W.tailIn K bmB bm = true) /\ PySem.W.nsOkIn K data.ns = true) /\ PySem.W.nsIn K data.ns "__init__" = some none := by
        simpa [Bool.and_eq_true, Bool.not_eq_true'] using hq
      obtain ⟨⟨⟨⟨⟨c1, c2⟩, c3⟩, c4⟩, c5⟩, c6⟩ := hq1
      subst c1; subst c2
      obtain ⟨nm, bs, mro, ns, qn, hd, sn, sub, ab, col, del⟩ := data
      cases emro; cases c3
      obtain ⟨l⟩ := sl
      cases esl
      exact ⟨bm, ns, nm, qn, bs, hd, sn, sub, ab, col, dd, k0, k1, k2, k3, k5, _, KX _ _ lk, .of_isNs (PySem.W.isNs_of_in KX c5), PySem.W.nsMap_none_of_in KX c5 c6, PySem.W.tail_of_in KX c4⟩
    · cases hq
  · cases hq
def raiseK (c : Nat) (ρ : Ev) (ds : List D) : M Fl := if ds.length <= cap then ret (.xc ρ ⟨c⟩) else bad
def sRaise (c : Nat) (fs : Ev -> M (List D)) : Ev -> M Fl := fun ρ => xs ρ (fs ρ) (raiseK c ρ)
section
variable {T : Tb} {X : Cx}
theorem fs_raise (c : Nat) {x : Str} {B newId initId : String} {bmB : List Value} {np cpos pos : Pos} {e : Expr} {es : List Expr} {fs : Ev -> M (List D)} (FB : ExcBaseFacts B newId initId bmB) (hK : T.K = X.K) (hq : PySem.W.excIn T.K (T.ca c) bmB newId = true) (hm : X.mg x = some (.ref (T.ca c)))
    (hg : Gl X x) (hc : X.calm = true) (ha : FA T X (e :: es) fs) (hdb : (x == ("__debug__" : Str)) = false := by decide) (he : starEach (e :: es) X.env = (false, eval e X.env) :: starEach es X.env := by rfl)
    (hpl : (backTo cpos (starEach es X.env)).any (·.1) = false := by rfl) : FS T X (.Raise (some (.Call (.Name x np) (e :: es) [] cpos)) none pos) (sRaise c fs) := by
  intro pins s st H D I hw
  obtain ⟨μ, ρ, σ, hE, hr, hp⟩ := hw
  rw [hK] at hq
  obtain ⟨bm, N, nm, qn, bs, hdct, sn, sub, ab, col, dd, k0, k1, k2, k3, k5, mN, hC, hN, hni, tl⟩ := exc_obj I.ok.mod.kin hq
  have hpl' : (backTo cpos (starEach (e :: es) X.env)).any (·.1) = false := by
    rw [he]; show (false || (backTo cpos (starEach es X.env)).any (·.1)) = false; rw [hpl]; rfl
  refine wpAny_Raise_call_subT (nm := nm) (q := qn) (N := N) (bs := bs) (bm := bm) (hdct := hdct) (sn := sn) (sub := sub) (ab := ab) (col := col) (dd := dd) (k0 := k0) (k1 := k1) (k2 := k2) (k3 := k3) (k5 := k5) FB (mN := mN) (tl.hasType FB.hasBase) (I.ok.hd hc) hpl' hni (ld_glob I hg hm ⟨rfl, ?_⟩ hdb)
  have step := ha cpos pins s st H (fun vs H1 => vs.length <= cap /\ Thr X st (T.cv ⟨c⟩) H1) I ⟨μ, ρ, σ, hE, hr, hp.xs hE fun ds σ1 μ1 vs H1 _ e1 r1 q1 p1 => by
    unfold raiseK at p1
    by_cases hl : ds.length <= cap
    · rw [if_pos hl] at p1
      exact ⟨by rw [<- q1.length]; exact hl, zad.here (g := Gl2.xc st (T.cv ⟨c⟩)) p1 r1 ⟨hE.mono e1, rfl⟩⟩
    · rw [if_neg hl] at p1; exact p1.elim⟩
  rw [he] at step ⊢
  refine Calls.evalArgs_plain (thn step fun us s1 ⟨vs, H1, I1, r, hl, thr⟩ => ?_)
  exact ⟨rfl, by rw [<- r.length]; exact cap_le hl, I1.bk _ _ hC, hN.keeps I1.bk, tl.keeps I1.bk, fun h' ea hx => thr.made pins s1 ea h' us I1 hx⟩
end
structure Hd where
  t : Nat -> Option Bool
  nm : Option Nat
  g : Ev -> M Fl
def unbK (i : Nat) : Fl -> M Fl
  | .nx ρ => ret (.nx (ρ.set i none))
  | .rt d => ret (.rt d)
  | .bk ρ => ret (.bk (ρ.set i none))
  | .ct ρ => ret (.ct (ρ.set i none))
  | .xc _ _ => bad
def noF : Fl -> M Fl
  | .nx ρ => ret (.nx ρ)
  | .rt d => ret (.rt d)
  | .bk ρ => ret (.bk ρ)
  | .ct ρ => ret (.ct ρ)
  | .xc _ _ => bad
def hit (h : Hd) (ρ : Ev) (x : Xn) : M Fl := match h.nm with
  | none => bnd (h.g ρ) noF
  | some i => bnd (h.g (ρ.set i (some (.exn x.cls)))) (unbK i)
def handle (ρ : Ev) (x : Xn) : List Hd -> M Fl
  | [] => bad
  | h :: r => match h.t x.cls with
    | some true => hit h ρ x
    | some false => handle ρ x r
    | none => bad
def tryK (hs : List Hd) : Fl -> M Fl
  | .xc ρ x => handle ρ x hs
  | .nx ρ => ret (.nx ρ)
  | .rt d => ret (.rt d)
  | .bk ρ => ret (.bk ρ)
  | .ct ρ => ret (.ct ρ)
def sTry (g : Ev -> M Fl) (hs : List Hd) : Ev -> M Fl := fun ρ => bnd (g ρ) (tryK hs)
abbrev Cx.inH (X : Cx) (e : Value) : Cx := { X with A := X.A.mark (some e), calm := false, xe := fun _ _ => False }
abbrev Cx.inT (X : Cx) (pins : List (Addr × Obj)) (xe : Value -> Shared -> Prop) : Cx := { X with xe := xe, pn := X.pn ++ pins }
section
variable {T : Tb} {X : Cx} {pins : List (Addr × Obj)} {st : St} {H : Hp} {s : Shared} {e : Value} {xe : Value -> Shared -> Prop}
theorem inv_inT (I : Inv X pins st H s) : Inv (Cx.inT X pins xe) [] st H s :=
  ⟨⟨I.ok.mod, I.ok.kind, I.ok.glob, I.ok.blt, I.ok.above, I.ok.inj, I.ok.has, I.ok.cab, I.ok.hd, I.ok.frames, I.ok.stk, I.ok.exf, I.ok.bs, I.ok.bsz, I.ok.noex, I.ok.exfs, I.ok.funs, I.ok.frf⟩, I.os, I.bare, I.base, I.loc, I.cell, I.free, I.freeC, fun p hp => I.pin p (by simpa using hp), I.hok, I.len⟩
theorem inv_outT {p1 : List (Addr × Obj)} (I : Inv (Cx.inT X pins xe) p1 st H s) : Inv X pins st H s :=
  ⟨⟨I.ok.mod, I.ok.kind, I.ok.glob, I.ok.blt, I.ok.above, I.ok.inj, I.ok.has, I.ok.cab, I.ok.hd, I.ok.frames, I.ok.stk, I.ok.exf, I.ok.bs, I.ok.bsz, I.ok.noex, I.ok.exfs, I.ok.funs, I.ok.frf⟩, I.os, I.bare, I.base, I.loc, I.cell, I.free, I.freeC, fun p hp => I.pin p (List.mem_append_left _ hp), I.hok, I.len⟩
theorem inv_inH (I : Inv X pins st H s) : Inv (Cx.inH X e) pins st H s :=
  ⟨⟨I.ok.mod, I.ok.kind, I.ok.glob, I.ok.blt, I.ok.above, I.ok.inj, I.ok.has, I.ok.cab, fun z => (by cases z), I.ok.frames, I.ok.stk, I.ok.exf, I.ok.bs, I.ok.bsz, I.ok.noex, I.ok.exfs, I.ok.funs, I.ok.frf⟩, I.os, I.bare, I.base, I.loc, I.cell, I.free, I.freeC, I.pin, I.hok, I.len⟩
theorem inv_outH (ok : X.Ok) (I : Inv (Cx.inH X e) pins st H s) : Inv X pins st H s :=
  ⟨ok, I.os, I.bare, I.base, I.loc, I.cell, I.free, I.freeC, I.pin, I.hok, I.len⟩
theorem sp_outT {D : Ends} {f : Flow} {s' : Shared} (h : SP (Cx.inT X pins xe) [] D f s') : SP X pins D f s' := by
  cases f with
  | next => obtain ⟨σ', H', I, q⟩ := h; exact ⟨σ', H', inv_outT I, q⟩
  | brk => obtain ⟨σ', H', I, q⟩ := h; exact ⟨σ', H', inv_outT I, q⟩
  | cont => obtain ⟨σ', H', I, q⟩ := h; exact ⟨σ', H', inv_outT I, q⟩
  | ret u => obtain ⟨v, σ', H', I, r, q⟩ := h; exact ⟨v, σ', H', inv_outT I, r, q⟩
theorem sp_outH (ok : X.Ok) {D : Ends} {f : Flow} {s' : Shared} (h : SP (Cx.inH X e) pins D f s') : SP X pins D f s' := by
  cases f with
  | next => obtain ⟨σ', H', I, q⟩ := h; exact ⟨σ', H', inv_outH ok I, q⟩
  | brk => obtain ⟨σ', H', I, q⟩ := h; exact ⟨σ', H', inv_outH ok I, q⟩
  | cont => obtain ⟨σ', H', I, q⟩ := h; exact ⟨σ', H', inv_outH ok I, q⟩
  | ret u => obtain ⟨v, σ', H', I, r, q⟩ := h; exact ⟨v, σ', H', inv_outH ok I, r, q⟩
end
def Lnd (X : Cx) (pins : List (Addr × Obj)) (st : St) (H : Hp) (s : Shared) (ea : Addr) (cls : Value) : Prop := ∃ H0 s0, Inv X pins st H0 s0 /\ Fly X.prog X.w X.stack H0 s0 cls H (.ref ea) s
section
variable {T : Tb} {X : Cx} {pins : List (Addr × Obj)} {st : St} {H : Hp} {s : Shared} {ea : Addr} {cls : Value}
theorem Lnd.inv (L : Lnd X pins st H s ea cls) : Inv X pins st H s := by
  obtain ⟨H0, s0, I, F⟩ := L
  exact L2.Inv.call' (ch := []) I F.os F.un F.hok F.bare fun b z => absurd z (by simp)
theorem Lnd.next (L : Lnd X pins st H s ea cls) {M : Model} {A : Around} {E : Value -> Shared -> Prop} {Q : Unit -> Shared -> Prop} (h : ∀ s', Lnd X pins st H s' ea cls -> Q () s') : wpAny M A (setFlight (.ref ea) none) Q E s := by
  obtain ⟨H0, s0, I, F⟩ := L
  obtain ⟨ea', a0, B, e, fl, hn, hnew, hT, hB, hA⟩ := F.ex
  cases e
  refine lands_againW fl fun h6 fl6 sl6 => h _ ?_
  obtain ⟨un, hok⟩ := fly_un F hB hT hA fl.1 fl6.1 sl6 (fly_frames I)
  exact ⟨H0, s0, I, ⟨ea, a0, B, rfl, fl6, hn, hnew, hT, hB, hA⟩, F.os, F.bare, un, hok⟩
theorem Lnd.obj (L : Lnd X pins st H s ea cls) : H ea = none /\ (∃ o, s.heap.get? ea = some o /\ o.cls = cls) /\ ∃ s0 : Shared, s0.heap.get? ea = none /\ ∃ H0, Inv X pins st H0 s0 := by
  obtain ⟨H0, s0, I, F⟩ := L
  obtain ⟨ea', a0, B, e, fl, hn, hnew, hT, hB, hA⟩ := F.ex
  cases e
  exact ⟨hn, fl.there, s0, hnew, H0, I⟩
theorem Lnd.track (L : Lnd X pins st H s ea (.ref C)) : Inv X pins st (upd H ea (.ext (ExcAt C ea))) s := by
  obtain ⟨hn, ⟨o, ho, hc⟩, s0, hnew, H0, I0⟩ := L.obj
  have I := L.inv
  have ne : ∀ b u, s0.heap.get? b = some u -> b ≠ ea := fun b u e z => by rw [z, hnew] at e; cases e
  have nt : ∀ b u, H b = some u -> b ≠ ea := fun b u e z => by rw [z, hn] at e; cases e
  have n0 : ∀ b u, X.s₀.heap.get? b = some u -> b ∉ X.ex -> b ≠ ea := fun b u e hx => by obtain ⟨u', e'⟩ := I0.base.there b u e hx; exact ne b u' e'
  refine ⟨I.ok, I.os, I.bare, ⟨I.base.keep, I.base.slot, fun b u e n hx => ?_, I.base.there, fun b xs e => ?_, fun b ob u e => ?_, fun b ps e => ?_⟩, I.loc, I.cell, ?_, fun x c e => ?_, fun p hp => ?_, fun b u e => ?_, I.len⟩
  · rw [upd_ne (n0 b u e hx)]; exact I.base.free b u e n hx
  · have q := I.base.tups b xs e; rw [upd_ne (nt b _ q)]; exact q
  · have q := I.base.frzs b ob u e; rw [upd_ne (nt b _ q)]; exact q
  · obtain ⟨more, q⟩ := I.base.tbls b ps e; exact ⟨more, by rw [upd_ne (nt b _ q)]; exact q⟩
  · obtain ⟨m, ⟨u, _, _, hu, _⟩, _⟩ := I0.loc
    rw [upd_ne (ne _ u hu)]; exact I.free
  · obtain ⟨v, u, hu, _⟩ := I0.cell x c e
    rw [upd_ne (ne _ u hu)]; exact I.freeC x c e
  · obtain ⟨p1, p2, p3⟩ := I.pin p hp
    refine ⟨p1, ?_, p3⟩
    rw [upd_ne (ne _ _ (I0.pin p hp).1)]; exact p2
  · by_cases hb : b = ea
    · subst hb; rw [upd_same] at e; cases e
      exact ⟨⟨o, ho, hc⟩, ⟨o, ho⟩, fun h1 h2 ⟨u, hu, hcu⟩ k => ⟨u, k u hu, hcu⟩⟩
    · rw [upd_ne hb] at e
      exact (I.hok b u e).stay (fun c v _ q => q) (fun c q => by rw [upd_ne (nt c _ q)]; exact q) fun c xs q => by rw [upd_ne (nt c _ q)]; exact q
theorem lnd_fly (I : Inv X pins st H s) (hs : X.stack = X.env :: X.outer) (hf : X.env.frame = some X.env.locals) {s' : Shared} {H' : Hp} {e : Value} (F : Fly X.prog X.w X.stack H s cls H' e s') {M : Model} {E : Value -> Shared -> Prop} {Q : Value -> Shared -> Prop}
    (h : ∀ ea s'', e = .ref ea -> Lnd X pins st H' s'' ea cls -> Q e s'') : wpAny M X.A (noteFrame e X.env) (fun _ s2 => wpAny M X.A (setFlight e none) (fun _ s3 => Q e s3) E s2) E s' := by
  obtain ⟨ea, a0, B, rfl, fl, hn, hnew, hT, hB, hA⟩ := F.ex
  have fl' : Heap.FlyingW B (X.env :: X.outer) ea cls a0 s'.heap := by rw [<- hs]; exact fl
  refine wpAny_looks_onW (by rw [<- hs]; exact I.ok.frames) hf fl' fun h4 held4 sm4 => ?_
  refine wpAny_landsW held4 fun h5 fl5 sm5 => h ea _ rfl ?_
  have fl5' : Heap.FlyingW B X.stack ea cls a0 h5 := by rw [hs]; exact fl5
  obtain ⟨un, hok⟩ := fly_un F hB hT hA fl.1 fl5'.1 (sm4.trans sm5) (fly_frames I)
  exact ⟨H, s, I, ⟨ea, a0, B, rfl, fl5', hn, hnew, hT, hB, hA⟩, F.os, F.bare, un, hok⟩
theorem lnd_made (I : Inv X pins st H s) (hs : X.stack = X.env :: X.outer) (hf : X.env.frame = some X.env.locals) {h' : Heap} {args : List Value} (hx : Heap.MadeExcOf s.heap h' ea cls args) {M : Model} {E : Value -> Shared -> Prop} {Q : Unit -> Shared -> Prop}
    (h : ∀ s'', Lnd X pins st H s'' ea cls -> Q () s'') : wpAny M X.A (noteFrame (.ref ea) X.env) (fun _ s2 => wpAny M X.A (setFlight (.ref ea) none) Q E s2) E { s with heap := h' } := by
  have ff : s.heap.FunFrames (PySem.W.hideAll s.heap (frs X.stack)) (X.env :: X.outer) := by
    have := PySem.W.funFrames_hide (as := frs X.stack) I.stack (fun env he a ha => List.mem_filterMap.mpr ⟨env, he, ha⟩)
    rwa [hs] at this ⊢
  have hid : ∀ b o, s.heap.get? b = some o -> b ∉ frs X.stack -> (PySem.W.hideAll s.heap (frs X.stack)).get? b = some o := fun b o e n => PySem.W.hideAll_get _ e n
  obtain ⟨t, he, htn, ht⟩ := hx.there
  have hen : (PySem.W.hideAll s.heap (frs X.stack)).get? ea = none := by
    cases q : (PySem.W.hideAll s.heap (frs X.stack)).get? ea with
    | none => rfl
    | some u => have := PySem.W.of_hideAll _ q; rw [hx.new] at this; cases this
  unfold noteFrame
  simp only [hf]
  refine wpAny_bind (wpAny_field he rfl (x := .none) rfl ?_)
  rw [if_neg (by decide)]
  refine wpAny_entryW (base := PySem.W.hideAll s.heap (frs X.stack)) (outer := X.outer) (a0 := .ref t) (by rw [<- hs]; exact I.ok.frames) (ff.of_keeps fun b o e _ => ⟨o, hx.keeps b o e, rfl⟩) hf he (fun b o q => hx.keeps b o (PySem.W.of_hideAll _ q)) hen rfl (by simp) rfl fun h4 hN => ?_
  obtain ⟨k1, k2, k3, k4⟩ := hN
  refine wpAny_landsW ⟨k1, hen, k2, k3⟩ fun h5 fl5 sm5 => h _ ?_
  have fl5' : Heap.FlyingW (PySem.W.hideAll s.heap (frs X.stack)) X.stack ea cls (.ref t) h5 := by
    have z := fl5
    rwa [<- hs] at z
  have x4 : ∀ b o, h'.get? b = some o -> (∀ vs, o.data ≠ .fields vs) -> ∃ sl, h5.get? b = some { o with slots := sl } := (show Heap.UpToSlots h' h4 from k4).trans sm5
  have stay : ∀ b o, s.heap.get? b = some o -> b ∉ frs X.stack -> h5.get? b = some o := fun b o e n => fl5'.1 b o (hid b o e n)
  have slots : ∀ b o, s.heap.get? b = some o -> b ∈ frs X.stack -> ∃ sl, h5.get? b = some { o with slots := sl } := fun b o e n => by
    obtain ⟨_, o', e', hd⟩ := I.stack.mem n
    rw [e] at e'; cases e'
    exact x4 b o (hx.keeps b o e) hd
  have nst : ∀ b o, H b = some o -> b ∉ frs X.stack := fun b o e z => by rw [I.stkFree b z] at e; cases e
  have hn : H ea = none := by
    cases q : H ea with
    | none => rfl
    | some u => obtain ⟨v, e⟩ := objOk_there (I.hok _ _ q); rw [hx.new] at e; cases e
  refine ⟨H, s, I, ⟨ea, .ref t, _, rfl, fl5', hn, hx.new, fun b o e => ?_, fun b o e n hb => hid b o e hb, fun b o e hb => ⟨o, hid b o e hb⟩⟩, rfl, I.bare, ⟨fun b o e n hb _ => stay b o e hb, fun b o e n hb _ => slots b o e hb, fun b o e n _ => n, fun b o e _ => ?_, fun _ _ e => e, fun _ _ _ e => e, fun b ps e => ⟨#[], by rw [e]; simp⟩⟩, hok_of I.hok fun b o u e q => stay b u q (nst b o e)⟩
  · obtain ⟨u, q⟩ := objOk_there (I.hok _ _ e)
    exact ⟨u, hid b u q (nst b o e)⟩
  · by_cases hb : b ∈ frs X.stack
    · obtain ⟨sl, q⟩ := slots b o e hb; exact ⟨_, q⟩
    · exact ⟨o, stay b o e hb⟩
end
def NmCls (X : Cx) (x : Str) (cv : Value) : Prop := X.mg x = some cv \/ (X.mg x = none /\ bootBuiltins x = some cv /\ x ≠ "__name__")
inductive FHs (T : Tb) (X : Cx) : List ExceptHandler -> List Hd -> Prop where
  | nil : FHs T X [] []
  | cons {x : Str} {np pos : Pos} {cv : Value} {b₀ : Stmt} {suite : List Stmt} {t : Nat -> Option Bool} {g : Ev -> M Fl} {r : List ExceptHandler} {hs : List Hd} (hg : Gl X x) (hd : (x == ("__debug__" : Str)) = false) (hm : NmCls X x cv) (ht : ∀ c b, t c = some b -> PySem.W.exmOne X.K (.ref (T.ca c)) cv = some b)
      (hb : ∀ e, FSs T (Cx.inH X e) (b₀ :: suite) g) (hr : FHs T X r hs) : FHs T X (.ExceptHandler (some (.Name x np)) none (b₀ :: suite) pos :: r) (⟨t, none, g⟩ :: hs)
  | consAs {x n : Str} {i : Nat} {np pos : Pos} {cv : Value} {b₀ : Stmt} {suite : List Stmt} {t : Nat -> Option Bool} {g : Ev -> M Fl} {r : List ExceptHandler} {hs : List Hd} (hg : Gl X x) (hd : (x == ("__debug__" : Str)) = false) (hm : NmCls X x cv) (ht : ∀ c b, t c = some b -> PySem.W.exmOne X.K (.ref (T.ca c)) cv = some b)
      (hN : X.N.Nodup) (hi : X.N[i]? = some n) (hl : X.env.scope.names.lookup n = some .local)
      (hb : ∀ e, FSs T (Cx.inH X e) (b₀ :: suite) g) (hr : FHs T X r hs) : FHs T X (.ExceptHandler (some (.Name x np)) (some n) (b₀ :: suite) pos :: r) (⟨t, some i, g⟩ :: hs)
section
variable {T : Tb} {X : Cx}
theorem ld_nm {pins : List (Addr × Obj)} {st : St} {H : Hp} {s : Shared} {x : Str} {cv : Value} {pos : Pos} {E : Value -> Shared -> Prop} {Q : Value -> Shared -> Prop} (I : Inv X pins st H s) (hg : Gl X x) (hd : (x == ("__debug__" : Str)) = false) (hm : NmCls X x cv) (h : Q cv s) : wpAny (model X.prog X.w) X.A (eval (.Name x pos) X.env) Q E s := by
  rcases hm with hm | ⟨hm, hv, hn⟩
  · exact ld_glob I hg hm h hd
  · exact ld_blt I hg hm hv h hn hd
theorem post_noF {e : Value} {μ : List Addr} {H : Hp} {o : Out Fl} {D : Ends} (hp : zad T EN (RFl T) μ H (o.bind noF) (EndQ X D)) : zad T EN (RFl T) μ H o (EndQ (Cx.inH X e) D) := by
  cases o with
  | bad => exact hp
  | ex x σ => exact hp
  | ok fl σ =>
    intro μ1 gl H1 e1 r1 q1
    cases fl with
    | nx ρ => cases gl with
      | nx st => exact hp μ1 (.nx st) H1 e1 r1 q1
      | _ => exact q1.elim
    | rt ρ => cases gl with
      | rt st => exact hp μ1 (.rt st) H1 e1 r1 q1
      | _ => exact q1.elim
    | bk ρ => cases gl with
      | bk st => exact hp μ1 (.bk st) H1 e1 r1 q1
      | _ => exact q1.elim
    | ct ρ => cases gl with
      | ct st => exact hp μ1 (.ct st) H1 e1 r1 q1
      | _ => exact q1.elim
    | xc ρ x => exact hp.elim
theorem erep_unset {μ : List Addr} {H : Hp} {ρ : Ev} {st : St} (h : ERep T μ H ρ st) (i : Nat) : ERep T μ H (ρ.set i none) (st.set i none) := by
  refine ⟨by simpa using h.1, fun j d q => ?_⟩
  rw [List.getElem?_set] at q
  by_cases hj : i = j
  · subst hj; rw [if_pos rfl] at q; split at q <;> cases q
  · rw [if_neg hj] at q
    obtain ⟨v, h1, h2⟩ := h.2 j d q
    exact ⟨v, by rw [List.getElem?_set, if_neg hj]; exact h1, h2⟩
theorem post_unb {e : Value} {μ : List Addr} {H : Hp} {o : Out Fl} {D : Ends} {i : Nat} (hp : zad T EN (RFl T) μ H (o.bind (unbK i)) (EndQ X D)) : zad T EN (RFl T) μ H o (EndQ (Cx.inH X e) ⟨fun st H => D.nx (st.set i none) H, D.rt, fun st H => D.bk (st.set i none) H, fun st H => D.ct (st.set i none) H⟩) := by
  cases o with
  | bad => exact hp
  | ex x σ => exact hp
  | ok fl σ =>
    intro μ1 gl H1 e1 r1 q1
    cases fl with
    | nx ρ => cases gl with
      | nx st => exact hp μ1 (.nx (st.set i none)) H1 e1 r1 (erep_unset q1 i)
      | _ => exact q1.elim
    | rt ρ => cases gl with
      | rt st => exact hp μ1 (.rt st) H1 e1 r1 q1
      | _ => exact q1.elim
    | bk ρ => cases gl with
      | bk st => exact hp μ1 (.bk (st.set i none)) H1 e1 r1 (erep_unset q1 i)
      | _ => exact q1.elim
    | ct ρ => cases gl with
      | ct st => exact hp μ1 (.ct (st.set i none)) H1 e1 r1 (erep_unset q1 i)
      | _ => exact q1.elim
    | xc ρ x => exact hp.elim
theorem inv_unset {pins : List (Addr × Obj)} {st : St} {H : Hp} {s : Shared} {n : Str} {i t : Nat} {h' : Heap} {m : Str -> Option Value} (I : Inv X pins st H s) (hN : X.N.Nodup) (hi : X.N[i]? = some n) (hl : X.env.scope.names.lookup n = some .local) (hn : s.heap.Ns X.env.locals m) {w : Option Value} (hn' : h'.Ns X.env.locals fun y => if y = n then w else m y) (hs : Heap.SameBut X.env.locals s.heap h') : Inv X pins (st.set i none) H { s with heap := h', toks := t } := by
  have neL : ∀ b o, X.s₀.heap.get? b = some o -> b ≠ X.env.locals := fun b o e => Nat.ne_of_lt (Nat.lt_of_lt_of_le (Heap.lt_size e) I.ok.above)
  obtain ⟨m0, hm0, hloc⟩ := I.loc
  have em : m0 = m := by
    obtain ⟨o, es, ep, ho, hd, hk, hf⟩ := hm0
    obtain ⟨o', es', ep', ho', hd', hk', hf'⟩ := hn
    rw [ho] at ho'; cases ho'
    rw [hd] at hd'; cases hd'
    funext y
    rw [<- hf y, <- hf' y]
  subst em
  refine ⟨I.ok, I.os, I.bare, ⟨fun b o e n hb hx => (hs.2 b (neL b o e)).trans (I.base.keep b o e n hb hx), fun b o e n hb hx => ?_, I.base.free, fun b o e hx => ?_, I.base.tups, I.base.frzs, I.base.tbls⟩, ⟨_, hn', fun j y v e1 e2 e3 => ?_⟩, fun y c e => ?_, I.free, I.freeC, fun p hp => ?_, hok_of I.hok fun b o u e q => ?_, by simpa using I.len⟩
  · obtain ⟨sl, q⟩ := I.base.slot b o e n hb hx
    exact ⟨sl, (hs.2 b (neL b o e)).trans q⟩
  · obtain ⟨o', q⟩ := I.base.there b o e hx
    exact ⟨o', (hs.2 b (neL b o e)).trans q⟩
  · rw [List.getElem?_set] at e2
    by_cases hj : i = j
    · subst hj; rw [if_pos rfl] at e2; split at e2 <;> cases e2
    · rw [if_neg hj] at e2
      obtain ⟨u, r, lk⟩ := hloc j y v e1 e2 e3
      refine ⟨u, r, ?_⟩
      have hy : y ≠ n := fun z => hj (nodup_ix hN hi (z ▸ e1))
      rcases lk with ⟨k, q⟩ | ⟨k, c, q, z⟩
      · exact .inl ⟨k, by show (if y = n then w else m0 y) = some u; rw [if_neg hy]; exact q⟩
      · exact .inr ⟨k, c, q, z.sameBut hs (I.cne y c q)⟩
  · obtain ⟨v, z⟩ := I.cell y c e
    exact ⟨v, z.sameBut hs (I.cne y c e)⟩
  · obtain ⟨q1, q2, q3, q4⟩ := I.pin p hp
    exact ⟨(hs.2 p.1 q3).trans q1, q2, q3, q4⟩
  · exact (hs.2 b fun z => by rw [z, I.free] at e; cases e).trans q
theorem by_handlers {D : Ends} {pins : List (Addr × Obj)} {st : St} {H : Hp} {ea : Addr} {x : Xn} {μ : List Addr} {ρ : Ev} {σ : Sto} {hds : List ExceptHandler} {hs : List Hd} (h : FHs T X hds hs) (hE : ERep T μ H ρ st) (hr : Rel T μ H σ) (hp : zad T EN (RFl T) μ H (handle ρ x hs σ) (EndQ X D)) :
    ∀ s, Lnd X pins st H s ea (T.cv x) -> wpAny (model X.prog X.w) X.A (handleBy (.ref ea) X.env hds) (SP X pins D) X.xe s := by
  induction h with
  | nil => exact hp.elim
  | @cons y np pos cv b₀ suite t g r hs hg hd hm ht hb hrest ih =>
    intro s L
    have I := L.inv
    obtain ⟨_, ⟨o, ho, hc⟩, _⟩ := L.obj
    refine wpAny_handleBy_cons (codeAny_handlers_test (ld_nm (X := Cx.inH X (.ref ea)) (inv_inH I) hg hd hm ?_)) (by intro q; cases q)
    unfold handle at hp
    dsimp only at hp
    cases et : t x.cls with
    | none => rw [et] at hp; exact hp.elim
    | some b =>
      rw [et] at hp
      have LT : PySem.W.Looks (model X.prog X.w) s.heap (typeOf (.ref ea)) (T.cv x) := by rw [<- hc]; exact (PySem.W.Looks.ld ho).andThen .now
      refine (PySem.W.exm_one I.kIn LT (ht x.cls b et)).here ?_
      cases b with
      | false => exact ih hp s L
      | true =>
        refine codeAny_handlers_suite (L.next fun s' L' => ?_)
        exact wpAny_mono (hb (.ref ea) pins s' st H D (inv_inH L'.inv) ⟨μ, ρ, σ, hE, hr, post_noF hp⟩) (fun f s2 q => sp_outH I.ok q) fun _ _ z => z.elim
  | @consAs y n i np pos cv b₀ suite t g r hs hg hd hm ht hN hi hl hb hrest ih =>
    intro s L
    have I := L.inv
    obtain ⟨_, ⟨o, ho, hc⟩, _⟩ := L.obj
    refine wpAny_handleBy_cons (codeAny_handlers_test (ld_nm (X := Cx.inH X (.ref ea)) (inv_inH I) hg hd hm ?_)) (by intro q; cases q)
    unfold handle at hp
    dsimp only at hp
    cases et : t x.cls with
    | none => rw [et] at hp; exact hp.elim
    | some b =>
      rw [et] at hp
      have LT : PySem.W.Looks (model X.prog X.w) s.heap (typeOf (.ref ea)) (T.cv x) := by rw [<- hc]; exact (PySem.W.Looks.ld ho).andThen .now
      refine (PySem.W.exm_one I.kIn LT (ht x.cls b et)).here ?_
      cases b with
      | false => exact ih hp s L
      | true =>
        refine codeAny_handlers_suite_as (L.next fun s' L' => ?_)
        have hn : H ea = none := L'.obj.1
        have I1 : Inv X pins st (upd H ea (.ext (ExcAt (T.ca x.cls) ea))) s' := Lnd.track L'
        have ex1 : Ext μ H μ (upd H ea (.ext (ExcAt (T.ca x.cls) ea))) := ext_new hn
        have out : ea ∉ μ := fun z => by obtain ⟨u, hu, _⟩ := hr.mem z; rw [hn] at hu; cases hu
        have rp : Rep T μ (upd H ea (.ext (ExcAt (T.ca x.cls) ea))) (.exn x.cls) (.ref ea) := by rw [Rep]; exact ⟨ea, rfl, out, upd_same⟩
        refine store_ok (X := Cx.inH X (.ref ea)) (v := .ref ea) (inv_inH I1) hN hi (.inl hl) rfl (fun s2 I2 => ?_) (.inr hl)
        refine wpAny_mono (hb (.ref ea) pins s2 _ _ ⟨fun st H => D.nx (st.set i none) H, D.rt, fun st H => D.bk (st.set i none) H, fun st H => D.ct (st.set i none) H⟩ I2 ⟨μ, ρ.set i (some (.exn x.cls)), σ, (hE.mono ex1).set i rp, hr.fresh hn, post_unb (zad.mono ex1 hp)⟩) (fun f s3 q => ?_) fun _ _ z => z.elim
        have cls0 : (X.env.scope.kind == .class || (X.env.scope.kind == .module && X.env.locals != X.env.globals)) = false := by rw [I.ok.kind]; rfl
        have go : ∀ {st3 : St} {H3 : Hp}, Inv (Cx.inH X (.ref ea)) pins st3 H3 s3 -> (∀ s4, Inv X pins (st3.set i none) H3 s4 -> SP X pins D f s4) -> wpAny (model X.prog X.w) X.A (do bindName X.env n .none; unbindBehindTheSuite X.env n pos) (fun _ s₃ => SP X pins D f s₃) X.xe s3 := fun {st3 H3} I3 k => by
          have J := inv_outH I.ok I3
          obtain ⟨m, hm3, _⟩ := id J.loc
          exact wpAny_nameGoes_keeps hl hm3 cls0 fun h4 v4 hn4 sb4 => k _ (inv_unset J hN hi hl hm3 hn4 sb4)
        cases f with
        | next => obtain ⟨st3, H3, I3, q3⟩ := q; exact go I3 fun s4 I4 => ⟨_, _, I4, q3⟩
        | brk => obtain ⟨st3, H3, I3, q3⟩ := q; exact go I3 fun s4 I4 => ⟨_, _, I4, q3⟩
        | cont => obtain ⟨st3, H3, I3, q3⟩ := q; exact go I3 fun s4 I4 => ⟨_, _, I4, q3⟩
        | ret u => obtain ⟨v, st3, H3, I3, r3, q3⟩ := q; exact go I3 fun s4 I4 => ⟨v, _, _, I4, r3, q3⟩
theorem fs_try {body : List Stmt} {h₀ : ExceptHandler} {hds : List ExceptHandler} {hs : List Hd} {g : Ev -> M Fl} {pos : Pos} (hst : X.stack = X.env :: X.outer) (hf : X.env.frame = some X.env.locals)
    (hb : ∀ pins xe, PassesOwn (model X.prog X.w) X.A X.env xe -> FSs T (Cx.inT X pins xe) body g) (hh : FHs T X (h₀ :: hds) hs) : FS T X (.Try body (h₀ :: hds) [] [] pos) (sTry g hs) := by
  intro pins s st H D I hw
  obtain ⟨μ, ρ, σ, hE, hr, hp⟩ := hw
  refine wpAny_Try_except ?_
  refine wpAny_mono (hb pins (fun e s₁ => wpAny (model X.prog X.w) X.A (noteFrame e X.env) (fun _ s₂ => wpAny (model X.prog X.w) X.A (setFlight e none) (fun _ s₃ => wpAny (model X.prog X.w) X.A (handleBy e X.env (h₀ :: hds)) (SP X pins D) X.xe s₃) X.xe s₂) X.xe s₁) PassesOwn.looking [] s st H D (inv_inT I)
    ⟨μ, ρ, σ, hE, hr, ?_⟩) (fun f s1 q => ?_) fun _ _ z => z
  · have hp' : zad T EN (RFl T) μ H ((g ρ σ).bind (tryK hs)) (EndQ X D) := hp
    cases eo : g ρ σ with
    | bad => rw [eo] at hp'; exact hp'
    | ex x σ1 => rw [eo] at hp'; exact hp'
    | ok fl σ1 =>
      rw [eo] at hp'
      intro μ1 gl H1 e1 r1 q1
      have p1 := hp'.mono e1
      cases fl with
      | nx ρ => cases gl with
        | nx st => exact p1 μ1 (.nx st) H1 (Ext.refl _ _) r1 q1
        | _ => exact q1.elim
      | rt ρ => cases gl with
        | rt st => exact p1 μ1 (.rt st) H1 (Ext.refl _ _) r1 q1
        | _ => exact q1.elim
      | bk ρ => cases gl with
        | bk st => exact p1 μ1 (.bk st) H1 (Ext.refl _ _) r1 q1
        | _ => exact q1.elim
      | ct ρ => cases gl with
        | ct st => exact p1 μ1 (.ct st) H1 (Ext.refl _ _) r1 q1
        | _ => exact q1.elim
      | xc ρ1 x => cases gl with
        | xc st1 cls =>
          obtain ⟨hE1, rfl⟩ := q1
          refine ⟨fun p0 H0 s0 e s' I0 F => ?_, fun p0 s0 ea h' args I0 hx => ?_⟩
          · exact lnd_fly (inv_outT I0) hst hf F (Q := fun e s₃ => wpAny (model X.prog X.w) X.A (handleBy e X.env (h₀ :: hds)) (SP X pins D) X.xe s₃) fun ea s'' ee L => by subst ee; exact by_handlers hh hE1 r1 p1 s'' L
          · exact lnd_made (inv_outT I0) hst hf hx fun s'' L => by_handlers hh hE1 r1 p1 s'' L
        | _ => exact q1.elim
  · have q' := sp_outT q
    cases f with
    | next => exact wpAny_execs_nil q'
    | brk => exact q'
    | cont => exact q'
    | ret u => exact q'
end
end L4
namespace L4
open PySem PySem.Spec PyProof.Rows L2
theorem fs_setF {T : Tb} {X : Cx} {stm : Stmt} {i : Nat} {f : Ev -> M D} (h : FS T X stm (sSet i f)) : FS T X stm (sSet i (eFrz f)) := by
  intro pins s st H D I hw
  obtain ⟨μ, ρ, σ, hE, hr, hp⟩ := hw
  refine h pins s st H D I ⟨μ, ρ, σ, hE, hr, ?_⟩
  have hp' : zad T EN (RFl T) μ H (xs ρ (frz (f ρ)) (setK i ρ) σ) (EndQ X D) := hp
  show zad T EN (RFl T) μ H (xs ρ (f ρ) (setK i ρ) σ) (EndQ X D)
  unfold xs frz at hp'
  unfold xs
  cases e : f ρ σ with
  | bad => rw [e] at hp'; exact hp'
  | ex x σ1 =>
    rw [e] at hp'
    unfold frzO at hp'
    dsimp only at hp' ⊢
    by_cases ht : σ1.take σ.length = σ
    · rw [if_pos ht] at hp'
      intro μ1 gl H1 e1 r1 q1
      cases gl with
      | xc st1 c1 =>
        obtain ⟨r2, e2⟩ := Rel.down hr r1 e1 ht
        obtain ⟨qE, qc⟩ := q1
        refine hp' μ (.xc st1 c1) H1 e2 r2 ⟨⟨qE.1, fun j d ej => ?_⟩, qc⟩
        obtain ⟨v, h1, h2⟩ := qE.2 j d ej
        obtain ⟨v0, _, h4⟩ := hE.2 j d ej
        exact ⟨v, h1, Rep.down e1.pre d v0 v h4 h2⟩
      | _ => exact q1.elim
    · rw [if_neg ht] at hp'; exact hp'.elim
  | ok d σ1 =>
    rw [e] at hp'
    unfold frzO at hp'
    dsimp only at hp' ⊢
    by_cases ht : σ1.take σ.length = σ
    · rw [if_pos ht] at hp'
      cases ef : fz σ.length σ1 6 d with
      | none => rw [ef] at hp'; exact hp'.elim
      | some d' =>
        rw [ef] at hp'
        intro μ1 gl H1 e1 r1 q1
        cases gl with
        | nx st1 =>
          obtain ⟨r2, e2⟩ := Rel.down hr r1 e1 ht
          have q1' : ERep T μ1 H1 (ρ.set i (some d)) st1 := q1
          refine hp' μ (.nx st1) H1 e2 r2 ⟨by simpa using q1'.1, fun j x ej => ?_⟩
          rw [List.getElem?_set] at ej
          by_cases hj : i = j
          · subst hj
            rw [if_pos rfl] at ej
            split at ej
            · rename_i hl
              cases ej
              obtain ⟨v, h1, h2⟩ := q1'.2 i d (by rw [List.getElem?_set, if_pos rfl, if_pos hl])
              exact ⟨v, h1, fz_rep e1.pre r1 6 d d' v (by rw [hr.len]; exact ef) h2⟩
            · cases ej
          · rw [if_neg hj] at ej
            obtain ⟨v, h1, h2⟩ := q1'.2 j x (by rw [List.getElem?_set, if_neg hj]; exact ej)
            obtain ⟨v0, _, h4⟩ := hE.2 j x ej
            exact ⟨v, h1, Rep.down e1.pre x v0 v h4 h2⟩
        | _ => exact q1.elim
    · rw [if_neg ht] at hp'; exact hp'.elim
def blsOf : List D -> Option (List Bool)
  | [] => some []
  | .bl b :: r => (blsOf r).map (b :: ·)
  | _ :: _ => none
def intsOf : List D -> Option (List Int)
  | [] => some []
  | .int b :: r => (intsOf r).map (b :: ·)
  | _ :: _ => none
theorem bls_rep {T : Tb} {μ : List Addr} {H : Hp} : ∀ {ds : List D} {vs : List V} {bs : List Bool}, zaf T μ H ds vs -> blsOf ds = some bs -> vs = bs.map V.bl
  | [], vs, bs, r, h => by cases h; rw [zaf] at r; exact r
  | d :: ds, vs, bs, r, h => by
    rw [zaf] at r
    obtain ⟨v, w, rfl, h1, h2⟩ := r
    cases d with
    | bl b =>
      obtain ⟨cs, e1, e2⟩ := Option.map_eq_some_iff.mp h
      subst e2
      rw [Rep] at h1; subst h1
      rw [bls_rep h2 e1]; rfl
    | _ => cases h
theorem ints_rep {T : Tb} {μ : List Addr} {H : Hp} : ∀ {ds : List D} {vs : List V} {bs : List Int}, zaf T μ H ds vs -> intsOf ds = some bs -> vs = bs.map V.int
  | [], vs, bs, r, h => by cases h; rw [zaf] at r; exact r
  | d :: ds, vs, bs, r, h => by
    rw [zaf] at r
    obtain ⟨v, w, rfl, h1, h2⟩ := r
    cases d with
    | int b =>
      obtain ⟨cs, e1, e2⟩ := Option.map_eq_some_iff.mp h
      subst e2
      rw [Rep] at h1; subst h1
      rw [ints_rep h2 e1]; rfl
    | _ => cases h
def oAll (xs : List D) : M D := fun σ => match xs with
  | [x] => (match (seqOf σ x).bind blsOf with
    | some bs => .ok (.bl (bs.all id)) σ
    | none => .bad)
  | _ => .bad
def oSum (xs : List D) : M D := fun σ => match xs with
  | [x] => (match (seqOf σ x).bind intsOf with
    | some bs => .ok (.int bs.sum) σ
    | none => .bad)
  | _ => .bad
section
variable {T : Tb} {X : Cx}
def rAllB (K : PySem.W.Frag) (g : List Bool -> Bool) : List V -> Hp -> VK -> Prop := fun xs H Q => ∃ p bs, xs = [.ref p] /\ (SqL K H p (bs.map V.bl) \/ SqT K H p (bs.map V.bl)) /\ Q (.bl (g bs)) H
def rSumI (K : PySem.W.Frag) : List V -> Hp -> VK -> Prop := fun xs H Q => ∃ (p : Addr) (bs : List Int), xs = [.ref p] /\ (SqL K H p (bs.map V.int) \/ SqT K H p (bs.map V.int)) /\ Q (.int bs.sum) H
theorem vals_bl : ∀ {bs : List Bool} {us : List Value}, zag (bs.map V.bl) us -> us = bs.map Value.bool
  | [], us, h => by cases h; rfl
  | b :: bs, us, h => by
    cases h with
    | cons r t => cases r; rw [vals_bl t]; rfl
theorem range_at {α : Type} (g : α -> Bool) (d : α) : ∀ (bs : List α), (List.range bs.length).all (fun i => g (bs.getD i d)) = bs.all g
  | [] => rfl
  | b :: bs => by
    rw [List.length_cons, List.range_succ_eq_map, List.all_cons, List.all_map, List.all_cons]
    congr 1
    rw [<- range_at g d bs]
    congr 1
theorem truth_bl {prog : Program} {w : World} {A : Around} (bs : List Bool) : TruthOf prog w A (fun i v => (bs.map Value.bool).toArray[i]? = some v) (fun i => bs.getD i false) := by
  intro i v s Q E hP hQ
  simp only [List.getElem?_toArray, List.getElem?_map] at hP
  cases e : bs[i]? with
  | none => rw [e] at hP; cases hP
  | some b =>
    rw [e] at hP; cases hP
    have hQ' : Q (bs.getD i false) s := hQ
    rw [List.getD_eq_getElem?_getD, e] at hQ'
    exact wpAny_truthy_bool hQ'
theorem kept_new {s : Shared} {o : Obj} {h' : Heap} (k : ∀ b u, b ∉ [s.heap.objs.size] -> (s.heap.push o).get? b = some u -> h'.get? b = some u) : ∀ b u, s.heap.get? b = some u -> h'.get? b = some u := fun b u e =>
  k b u (fun z => absurd (Heap.lt_size e) (by rw [List.mem_singleton.mp z]; exact Nat.lt_irrefl _)) (Heap.get?_push_of_some _ e)
theorem walk_seq {pins : List (Addr × Obj)} {s : Shared} {st : St} {H : Hp} {p : Addr} {vs : List V} {E : Value -> Shared -> Prop} {Q : Value -> Shared -> Prop} (hh : X.A.handled = none) (I : Inv X pins st H s) (hq : SqL X.K H p vs \/ SqT X.K H p vs)
    (h : ∀ (its : List Value) (It : Addr) (fp : List Addr) (St : Nat -> Heap -> Prop) (s2 : Shared), zag vs its -> Walks X.prog X.w X.A.in1 It fp [It] its.toArray.size (fun i v => its.toArray[i]? = some v) St -> St 0 s2.heap -> (∀ b ∈ fp, b < s2.heap.objs.size) ->
      (∀ h' tk, (∀ b o, b ∉ [It] -> s2.heap.get? b = some o -> h'.get? b = some o) -> Inv X pins st H { s2 with heap := h', toks := tk }) -> Q (.ref It) s2) : wpAny (model X.prog X.w) X.A.in1 (pyIter (.ref p)) Q E s := by
  rcases hq with hq | hq
  · obtain ⟨its, rv, pl, hz⟩ := I.list hq
    have hlt : p < s.heap.objs.size := by obtain ⟨_, e, _⟩ := pl.isList; exact Heap.lt_size e
    refine wpAny_pyIter_list pl.isList (h its s.heap.objs.size [s.heap.objs.size, p] _ _ rv (Walks.list (A := X.A.in1) hh _ p (Nat.ne_of_lt hlt) its.toArray) ⟨⟨_, Heap.get?_push_size _ rfl, rfl, rfl⟩, pl.isList.push _⟩ (fun b hb => ?_) (fun h' tk hk => I.kept (kept_new hk)))
    show b < (s.heap.push _).objs.size
    rw [Heap.size_push]
    simp only [List.mem_cons, List.not_mem_nil, or_false] at hb
    rcases hb with rfl | rfl
    · exact Nat.lt_succ_self _
    · exact Nat.lt_succ_of_lt hlt
  · obtain ⟨its, rv, pl, hz⟩ := I.tuple hq
    have hlt : p < s.heap.objs.size := pl.lt
    refine wpAny_pyIter_tuple (show s.heap.IsTuple p _ from pl) (h its s.heap.objs.size [s.heap.objs.size, p] _ _ rv (Walks.tuple (A := X.A.in1) hh _ p (Nat.ne_of_lt hlt) its.toArray) ⟨⟨_, Heap.get?_push_size _ rfl, rfl, rfl⟩, Heap.IsTuple.push (show s.heap.IsTuple p _ from pl) _⟩ (fun b hb => ?_) (fun h' tk hk => I.kept (kept_new hk)))
    show b < (s.heap.push _).objs.size
    rw [Heap.size_push]
    simp only [List.mem_cons, List.not_mem_nil, or_false] at hb
    rcases hb with rfl | rfl
    · exact Nat.lt_succ_self _
    · exact Nat.lt_succ_of_lt hlt
theorem call_all (hc : X.calm = true) : CallR X (.builtin "all") (rAllB X.K fun bs => bs.all id) := by
  intro pins s st H xs us Q I r h
  obtain ⟨p, bs, rfl, hq, q⟩ := h
  obtain ⟨u, rfl, ru⟩ := vals1 r
  cases ru
  refine call_all_walk (walk_seq (I.ok.hd hc) I hq fun its It fp St s2 rv W h0 hf hI => ?_)
  have ei := vals_bl rv
  subst ei
  refine ⟨_, _, _, _, _, _, fun i => bs.getD i false, rfl, W, h0, truth_bl bs, fun h' tk hk => ⟨.bl (bs.all id), H, hI h' tk hk, ?_, q⟩⟩
  show Value.bool _ = Value.bool _
  rw [List.size_toArray, List.length_map]
  exact congrArg Value.bool (range_at id false bs)
theorem preSum_take : ∀ (bs : List Int) (n : Nat), n <= bs.length -> preSum (fun i => bs.getD i 0) n = (bs.take n).sum
  | bs, 0, _ => by simp [preSum]
  | bs, n + 1, h => by
    rw [preSum, preSum_take bs n (by omega), List.take_succ_eq_append_getElem (by omega), List.sum_append]
    simp [List.getD_eq_getElem?_getD, show n < bs.length by omega]
theorem call_sumI (hc : X.calm = true) : CallR X (.builtin "sum") (rSumI X.K) := by
  intro pins s st H xs us Q I r h
  obtain ⟨p, bs, rfl, hq, q⟩ := h
  obtain ⟨u, rfl, ru⟩ := vals1 r
  cases ru
  refine call_sum_walkG (walk_seq (I.ok.hd hc) I hq fun its It fp St s2 rv W h0 hf hI => ?_)
  refine ⟨_, _, _, _, _, _, fun i => bs.getD i 0, rfl, W, h0, hf, fun i v hv => ?_, fun h' tk t' hk => ⟨.int bs.sum, H, hI h' tk hk, ⟨t', ?_⟩, q⟩⟩
  · simp only [List.getElem?_toArray] at hv
    obtain ⟨x, h1, h2⟩ := vals_get rv hv
    rw [List.getElem?_map] at h1
    cases e : bs[i]? with
    | none => rw [e] at h1; cases h1
    | some b =>
      rw [e] at h1; cases h1
      obtain ⟨t, rfl⟩ := h2
      exact ⟨t, by show Value.int b t = Value.int (bs.getD i 0) t; rw [List.getD_eq_getElem?_getD, e]; rfl⟩
  · have el : its.toArray.size = bs.length := by rw [List.size_toArray, <- rv.length, List.length_map]
    rw [el, preSum_take bs _ (Nat.le_refl _), List.take_length]
theorem seq_bind {α : Type} {σ : Sto} {x : D} {g : List D -> Option α} {bs : α} (h : (seqOf σ x).bind g = some bs) : ∃ ys, seqOf σ x = some ys /\ g ys = some bs := Option.bind_eq_some_iff.mp h
theorem snd_all (hK : T.K = X.K) : SndCall T (rAllB X.K fun bs => bs.all id) oAll := by
  intro E μ H σ xs vs Q r p h
  match xs with
  | [] => exact h.elim
  | [x] =>
    rw [zaf] at p
    obtain ⟨v, w, rfl, p1, p2⟩ := p
    rw [zaf] at p2; subst p2
    unfold oAll at h
    cases e : (seqOf σ x).bind blsOf with
    | none => simp only [e] at h; exact h.elim
    | some bs =>
      simp only [e] at h
      obtain ⟨ys, e1, e2⟩ := seq_bind e
      obtain ⟨b, vs, rfl, h1, h2⟩ := seq_rep r p1 e1
      rw [hK, bls_rep h1 e2] at h2
      exact ⟨b, bs, rfl, h2, zad.here h r (by rw [Rep])⟩
  | _ :: _ :: _ => exact h.elim
theorem snd_sum (hK : T.K = X.K) : SndCall T (rSumI X.K) oSum := by
  intro E μ H σ xs vs Q r p h
  match xs with
  | [] => exact h.elim
  | [x] =>
    rw [zaf] at p
    obtain ⟨v, w, rfl, p1, p2⟩ := p
    rw [zaf] at p2; subst p2
    unfold oSum at h
    cases e : (seqOf σ x).bind intsOf with
    | none => simp only [e] at h; exact h.elim
    | some bs =>
      simp only [e] at h
      obtain ⟨ys, e1, e2⟩ := seq_bind e
      obtain ⟨b, vs, rfl, h1, h2⟩ := seq_rep r p1 e1
      rw [hK, ints_rep h1 e2] at h2
      exact ⟨b, bs, rfl, h2, zad.here h r (by rw [Rep])⟩
  | _ :: _ :: _ => exact h.elim
def oMax2 (xs : List D) : M D := match xs with
  | [.int i, .int j] => ret (.int (max i j))
  | _ => bad
def oMin2 (xs : List D) : M D := match xs with
  | [.int i, .int j] => ret (.int (min i j))
  | _ => bad
theorem two_ints {μ : List Addr} {H : Hp} {x y : D} {vs : List V} (p : zaf T μ H [x, y] vs) : ∃ v u, vs = [v, u] /\ Rep T μ H x v /\ Rep T μ H y u := by
  rw [zaf] at p
  obtain ⟨v, w, rfl, p1, p2⟩ := p
  rw [zaf] at p2
  obtain ⟨u, w', rfl, p3, p4⟩ := p2
  rw [zaf] at p4; subst p4
  exact ⟨v, u, rfl, p1, p3⟩
theorem snd_max2 : SndCall T (fun xs H Q => ∃ i j, xs = [.int i, .int j] /\ Q (.int (if j > i then j else i)) H) oMax2 := by
  intro E μ H σ xs vs Q r p h
  unfold oMax2 at h
  split at h
  · rename_i i j
    obtain ⟨v, u, rfl, p1, p2⟩ := two_ints p
    refine ⟨i, j, by rw [zbv p1, zbv p2], ?_⟩
    have e : (if j > i then j else i) = max i j := by rw [Int.max_def]; split <;> split <;> omega
    rw [e]; exact zad.here h r (by rw [Rep])
  · exact h.elim
theorem snd_min2 : SndCall T (fun xs H Q => ∃ i j, xs = [.int i, .int j] /\ Q (.int (if j < i then j else i)) H) oMin2 := by
  intro E μ H σ xs vs Q r p h
  unfold oMin2 at h
  split at h
  · rename_i i j
    obtain ⟨v, u, rfl, p1, p2⟩ := two_ints p
    refine ⟨i, j, by rw [zbv p1, zbv p2], ?_⟩
    have e : (if j < i then j else i) = min i j := by rw [Int.min_def]; split <;> split <;> omega
    rw [e]; exact zad.here h r (by rw [Rep])
  · exact h.elim
def oIsT (neg : Bool) (x y : D) : M D := fun σ => match y with
  | .bl k => (match x with
    | .bl c => .ok (.bl (if neg then !(c == k) else c == k)) σ
    | .non => .ok (.bl neg) σ
    | .int _ => .ok (.bl neg) σ
    | .str _ => .ok (.bl neg) σ
    | _ => .bad)
  | _ => .bad
def ddp (ns : List Int) : List Int := ns.foldl step_dedup []
theorem ddp_first (ns : List Int) : firstMet (fun i => ns.getD i 0) ns.length = ddp ns := by
  unfold firstMet ddp
  congr 1
  apply List.ext_getElem?
  intro i
  by_cases h : i < ns.length
  · simp [h]
  · simp [h]
def oLenSet (x : D) : M D := fun σ => match (lsOf σ x).bind intsOf with
  | some ns => if ns.length <= cap then .ok (.int (ddp ns).length) σ else .bad
  | none => .bad
def rSet (K : PySem.W.Frag) : List V -> Hp -> VK -> Prop := fun xs H Q => ∃ (p : Addr) (ns : List Int), xs = [.ref p] /\ SqL K H p (ns.map V.int) /\ ns.length <= cap /\ ∀ l, H l = none -> Q (.ref l) (upd H l (.set (fun k => (ddp ns).any (· == k)) (ddp ns).length))
theorem cap_scan {n : Nat} (h : n <= cap) : n + 1 < scanBound := Nat.lt_of_le_of_lt (Nat.succ_le_succ h) (by decide)
theorem call_setI (hc : X.calm = true) : CallR X (.type "set") (rSet X.K) := by
  intro pins s st H xs us Q I r h
  obtain ⟨p, ns, rfl, hq, hl, q⟩ := h
  obtain ⟨u, rfl, ru⟩ := vals1 r
  cases ru
  obtain ⟨its, rv, pl, hz⟩ := I.list hq
  have el : its.length = ns.length := by rw [<- rv.length, List.length_map]
  refine call_set_list (I.ok.hd hc) pl.isList (ns := ns) (intsAre_of rv) (by rw [List.size_toArray, el]; exact cap_scan hl) fun h' tk hs hk => ?_
  rw [show its.toArray.size = ns.length by rw [List.size_toArray, el], ddp_first] at hs
  refine ⟨.ref s.heap.objs.size, _, I.laid (t' := tk) (o := .set (fun k => (ddp ns).any (· == k)) (ddp ns).length) (fun b o e => hk b o (Heap.lt_size e) e) (Nat.le_refl _) ?_, rfl, q _ (I.hok.fresh (Nat.le_refl _))⟩
  exact hs
theorem call_lenS : CallR X (.builtin "len") (fun xs H Q => ∃ (p : Addr) (S : Int -> Bool) (n : Nat), xs = [.ref p] /\ H p = some (.set S n) /\ Q (.int n) H) := by
  intro pins s st H xs us Q I r h
  obtain ⟨p, S, n, rfl, hp, q⟩ := h
  obtain ⟨u, rfl, ru⟩ := vals1 r
  cases ru
  obtain ⟨o, es, ep, t, h1, h2, h3, h4, h5, h6, h7, h8⟩ := (show zac X.prog X.w H s.heap p (.set S n) from I.hok p _ hp)
  refine call_len_set h1 h2 h3 h7 (by have : scanBound <= 2 ^ 62 := by decide
                                      omega) ⟨.int n, H, I.tok _, ⟨_, by rw [h8]⟩, q⟩
theorem fe_lenSet {e : Expr} {f : Ev -> M D} {p p2 pos pos2 : Pos} (hK : T.K = X.K) (hc : X.calm = true) (hg : Gl X "len") (hm : X.mg "len" = none) (hg2 : Gl X "set") (hm2 : X.mg "set" = none) (he : FE T X e f)
    (hs : starEach [e] X.env = (false, eval e X.env) :: starEach [] X.env := by rfl) (hpl : (backTo pos2 (starEach [] X.env)).any (·.1) = false := by rfl)
    (hs2 : starEach [.Call (.Name "set" p2) [e] [] pos2] X.env = (false, eval (.Call (.Name "set" p2) [e] [] pos2) X.env) :: starEach [] X.env := by rfl) (hpl2 : (backTo pos (starEach [] X.env)).any (·.1) = false := by rfl) :
    FE T X (.Call (.Name "len" p) [.Call (.Name "set" p2) [e] [] pos2] [] pos) (eUn oLenSet f) := by
  intro pins s st H Q I h
  refine pe_callB call_lenS hg hm PySem.boot_len (pa_cons (pe_callTy (call_setI hc) hg2 hm2 rfl (pa_cons he pa_nil hs) (by decide) (by decide) hs hpl) pa_nil hs2) (by decide) (by decide) hs2 hpl2 pins s st H Q I ?_
  obtain ⟨μ, ρ, σ, hE, hr, hp⟩ := h
  refine ⟨μ, ρ, σ, hE, hr, hp.bind fun d σ1 μ1 v H1 _ e1 r1 q1 p1 => ?_⟩
  unfold oLenSet at p1
  cases e2 : (lsOf σ1 d).bind intsOf with
  | none => rw [e2] at p1; exact p1.elim
  | some ns =>
    rw [e2] at p1
    dsimp only at p1
    by_cases hl : ns.length <= cap
    · rw [if_pos hl] at p1
      obtain ⟨ys, e3, e4⟩ := Option.bind_eq_some_iff.mp e2
      obtain ⟨a, vs, rfl, h1, h2⟩ := r1.ls q1 e3
      have ev := ints_rep h2 e4
      subst ev
      refine ⟨a, ns, rfl, SqL.of h1, hl, fun l hn => ?_⟩
      exact ⟨l, _, _, rfl, upd_same, p1 μ1 (.int (ddp ns).length) _ (ext_new hn) (r1.fresh hn) (by rw [Rep])⟩
    · rw [if_neg hl] at p1; exact p1.elim
def cutD (xs : List D) (lo hi : Option Int) : List D := (xs.drop (HT.sIx xs.length 0 lo)).take (HT.sIx xs.length xs.length hi - HT.sIx xs.length 0 lo)
theorem cutD_whole {xs : List D} {lo hi : Option Int} (h : HT.sIx xs.length 0 lo = 0 /\ HT.sIx xs.length xs.length hi = xs.length) : cutD xs lo hi = xs := by
  unfold cutD; rw [h.1, h.2]; simp
theorem cutD_rep {μ : List Addr} {H : Hp} {xs : List D} {vs : List V} (r : zaf T μ H xs vs) (lo hi : Option Int) : zaf T μ H (cutD xs lo hi) (cutV vs lo hi) := by
  unfold cutD cutV
  rw [r.length]
  exact zaf.take _ (zaf.drop _ r)
end
end L4
namespace HT
open PySem PySem.Spec PyProof.Rows
variable {prog : Program} {w : World} {A : Around} {E : Value -> Shared -> Prop} {s : Shared}
theorem getItem_tuple_all {t sl : Addr} {items : Array Value} {vl vu : Value} {lo hi : Option Int} {Q : Value -> Shared -> Prop} (ht : IsTup s.heap t items) (hs : s.heap.IsSliceOf sl vl vu .none) (pl : IsPart vl lo) (pu : IsPart vu hi)
    (hw : sIx items.size 0 lo = 0 /\ sIx items.size items.size hi = items.size) (h : Q (.ref t) s) : wpAny (model prog w) A (getItem (.ref t) (.ref sl)) Q E s := by
  obtain ⟨os, hos, hcs, hds⟩ := id hs
  have hTs : s.TypeIs (.ref sl) "slice" := ⟨os, hos, hcs⟩
  unfold getItem
  try with_reducible refine wpAny_holding ?_
  first | refine wpAny_bind (wpAny_pure ?_) | skip
  refine wpAny_bind (wpAny_sequenceKey ht.typeIs (by decide) ?_)
  refine wpAny_bind (wpAny_callSpecial?_slot (name := Str.ofString "__getitem__") ht.typeIs PyProof.Rows.slot_tuple_getitem
    (wpAny_call_entry PyProof.Rows.slot_tuple_getitem ht.typeIs entry_tuple_getitem ?_ (args_tuple_getitem _ _)))
  show wpAny _ _ (Builtin.Tuple.tupleItemsOf (.ref t) >>= _) _ _ s
  refine wpAny_bind (tupleItemsOf_ ht ?_)
  refine wpAny_bind (wpAny_typeOf hTs ?_)
  rw [if_pos (by decide)]
  refine wpAny_bind (sliceApplied_gen hs pl pu ?_)
  have hyes : (((sIx items.size 0 lo : Nat) : Int) == 0 && (1 : Int) == 1 && (sIx items.size items.size hi - sIx items.size 0 lo) == items.size) = true := by
    rw [hw.1, hw.2]; simp
  show wpAny _ _ (if (((sIx items.size 0 lo : Nat) : Int) == 0 && (1 : Int) == 1 && (sIx items.size items.size hi - sIx items.size 0 lo) == items.size) = true then _ else _) _ _ s
  rw [if_pos hyes]
  obtain ⟨o, ho, hc, hr⟩ := id ht
  unfold Builtin.Tuple.tupleIsExact
  refine wpAny_bind (wpAny_bind (wpAny_typeOf ht.typeIs ?_))
  refine wpAny_pure ?_
  rw [if_pos (by decide)]
  refine wpAny_bind (wpAny_rule ?_)
  first
    | exact wpAny_pure ⟨_, rfl, wpAny_pure h⟩
    | exact wpAny_pure (wpAny_pure ⟨_, rfl, wpAny_pure h⟩)
    | exact wpAny_bind (wpAny_pure (wpAny_pure ⟨_, rfl, wpAny_pure h⟩))
end HT
namespace L4
open PySem PySem.Spec PyProof.Rows L2
section
variable {T : Tb} {X : Cx}
def rSlA (K : PySem.W.Frag) : V -> Option Int -> Option Int -> Hp -> VK -> Prop := fun x lo hi H Q => ∃ a xs, x = .ref a /\ SqT K H a xs /\ (HT.sIx xs.length 0 lo = 0 /\ HT.sIx xs.length xs.length hi = xs.length) /\ Q (.ref a) H
theorem sl_all : SlR X (rSlA X.K) := by
  intro pins s st H x v vl vu lo hi sl Q I rx hs pl pu h
  obtain ⟨a, xs, rfl, hx, hw, q⟩ := h
  cases rx
  obtain ⟨its, r, ht, hz⟩ := I.tuple hx
  have hlen : its.toArray.size = xs.length := by rw [List.size_toArray]; exact r.length.symm
  exact ⟨"tuple", _, PyProof.Rows.slot_tuple_getitem.lookup, ht.typeIs, HT.getItem_tuple_all ht hs pl pu (by rw [hlen]; exact hw) ⟨.ref a, H, I, rfl, q⟩⟩
abbrev PF := Option (Ev -> M D)
def partK (d : D) : M (Option Int) := match d with
  | .int i => ret (some i)
  | _ => bad
def ePart (p : PF) : Ev -> M (Option Int) := match p with
  | none => fun _ => ret none
  | some f => fun ρ => bnd (f ρ) partK
def tP (T : Tb) (X : Cx) (f : Ev -> M (Option Int)) : TO := fun st H Q => ∃ μ ρ σ, ERep T μ H ρ st /\ Rel T μ H σ /\ zad T (XE X st) (fun _ _ a b => b = a) μ H (f ρ σ) Q
abbrev FO (T : Tb) (X : Cx) (e : Option Expr) (p : PF) : Prop := PO X e (tP T X (ePart p))
theorem fo_some {e : Expr} {f : Ev -> M D} (he : FE T X e f) : FO T X (some e) (some f) := by
  intro pins s st H Q I h
  refine po_some he pins s st H Q I ?_
  obtain ⟨μ, ρ, σ, hE, hr, hp⟩ := h
  refine ⟨μ, ρ, σ, hE, hr, zad.bind hp fun d σ1 μ1 v H1 _ e1 r1 q1 p1 => ?_⟩
  cases d with
  | int i => exact ⟨i, zbv q1, zad.here p1 r1 rfl⟩
  | _ => exact p1.elim
def cutO (x : D) (lo hi : Option Int) : M D := fun σ => match x with
  | .tup xs => .ok (.tup (cutD xs lo hi)) σ
  | .scr ns => .ok (.lst (cutD (ns.map D.int) lo hi)) σ
  | x => (match lsOf σ x with
    | some xs => .ok (.lst (cutD xs lo hi)) σ
    | none => .bad)
def sl2K (x : D) (lo : Option Int) (hi : Option Int) : M D := cutO x lo hi
def sl1K (x : D) (hi : M (Option Int)) (lo : Option Int) : M D := bnd hi (sl2K x lo)
def sl0K (lo hi : M (Option Int)) (x : D) : M D := bnd lo (sl1K x hi)
def eSl (f : Ev -> M D) (lo hi : PF) : Ev -> M D := fun ρ => bnd (f ρ) (sl0K (ePart lo ρ) (ePart hi ρ))
theorem fe_slice {e : Expr} {lo hi : Option Expr} {f : Ev -> M D} {pl ph : PF} {pos p2 : Pos} (hK : T.K = X.K) (he : FE T X e f) (hl : FO T X lo pl) (hh : FO T X hi ph) : FE T X (.Subscript e (.Slice lo hi none p2) pos) (eSl f pl ph) := by
  intro pins s st H Q I h
  refine pe_slice (SlR.or sl_tup (SlR.or sl_all sl_list)) he hl hh pins s st H Q I ?_
  obtain ⟨μ, ρ, σ, hE, hr, hp⟩ := h
  refine ⟨μ, ρ, σ, hE, hr, hp.bind fun d σ1 μ1 v H1 _ e1 r1 q1 p1 => ⟨μ1, ρ, σ1, hE.mono e1, r1, p1.bind fun l σ2 μ2 l' H2 _ e2 r2 q2 p2 => ⟨μ2, ρ, σ2, (hE.mono e1).mono e2, r2, p2.bind fun u σ3 μ3 u' H3 _ e3 r3 q3 p3 => ?_⟩⟩⟩
  have q2' : l' = l := q2
  have q3' : u' = u := q3
  subst q2'; subst q3'
  have rd : Rep T μ3 H3 d v := Rep.mono e3 _ _ (Rep.mono e2 _ _ q1)
  have lists : ∀ ys, lsOf σ3 d = some ys -> zad T (XE X st) (Rep T) μ3 H3 (.ok (.lst (cutD ys l' u')) σ3) Q -> rSlT X.K v l' u' H3 Q \/ rSlA X.K v l' u' H3 Q \/ rSlL X.K v l' u' H3 Q := fun ys ey p4 => by
    obtain ⟨a, vs, rfl, h1, h2⟩ := r3.ls rd ey
    exact .inr (.inr ⟨a, vs, rfl, SqL.of h1, fun p hn => new_lv p4 r3 (cutD_rep h2 l' u') hn⟩)
  cases d with
  | tup xs =>
    have rd0 := rd
    rw [Rep] at rd
    obtain ⟨p, vs, rfl, h1, h2⟩ := rd
    by_cases hw : HT.sIx vs.length 0 l' = 0 /\ HT.sIx vs.length vs.length u' = vs.length
    · refine .inr (.inl ⟨p, vs, rfl, SqT.of h1, hw, zad.here (d := D.tup (cutD xs l' u')) p3 r3 ?_⟩)
      rw [cutD_whole (by rw [h2.length]; exact hw)]; exact rd0
    · exact .inl ⟨p, vs, rfl, SqT.of h1, hw, fun q hn => new_tup p3 r3 (cutD_rep h2 l' u') hn⟩
  | ref n =>
    unfold sl2K cutO at p3
    dsimp only at p3
    cases ey : lsOf σ3 (.ref n) with
    | none => rw [ey] at p3; exact p3.elim
    | some ys => rw [ey] at p3; exact lists ys ey p3
  | lst ys => exact lists ys rfl p3
  | scr ns =>
    rw [Rep] at rd
    obtain ⟨p, rfl, h1⟩ := rd
    have h2 := h1.seq
    rw [hK] at h2
    exact .inr (.inr ⟨p, _, rfl, h2, fun p hn => new_lv p3 r3 (cutD_rep (repl_ints ns) l' u') hn⟩)
  | _ => exact p3.elim
def mnL (bs : List Int) : Int := bs.foldl min (bs.getD 0 0)
theorem foldl_min : ∀ (bs : List Int) (c : Int), (bs.foldl min c <= c /\ ∀ b ∈ bs, bs.foldl min c <= b) /\ (bs.foldl min c = c \/ bs.foldl min c ∈ bs)
  | [], c => by simp
  | b :: bs, c => by
    obtain ⟨⟨h1, h2⟩, h3⟩ := foldl_min bs (min c b)
    rw [List.foldl_cons]
    refine ⟨⟨by omega, fun x hx => ?_⟩, ?_⟩
    · rcases List.mem_cons.mp hx with rfl | hx
      · omega
      · exact h2 x hx
    · rcases h3 with h3 | h3
      · rw [h3, Int.min_def]; split
        · exact .inl rfl
        · exact .inr List.mem_cons_self
      · exact .inr (List.mem_cons_of_mem _ h3)
theorem mnL_of {bs : List Int} {i : Nat} (hi : i < bs.length) (h : ∀ j, j < bs.length -> bs.getD i 0 <= bs.getD j 0) : bs.getD i 0 = mnL bs := by
  have hm : ∀ j, j < bs.length -> bs.getD j 0 ∈ bs := fun j hj => by rw [List.getD_eq_getElem?_getD, List.getElem?_eq_getElem hj]; exact List.getElem_mem hj
  have h0 : 0 < bs.length := by omega
  obtain ⟨⟨h1, h2⟩, h3⟩ := foldl_min bs (bs.getD 0 0)
  have a := h2 _ (hm i hi)
  have b : bs.getD i 0 <= mnL bs := by
    rcases h3 with h3 | h3
    · show _ <= bs.foldl min (bs.getD 0 0); rw [h3]; exact h 0 h0
    · obtain ⟨j, hj, e⟩ := List.getElem_of_mem h3
      have := h j hj
      rw [List.getD_eq_getElem?_getD (i := j), List.getElem?_eq_getElem hj] at this
      show _ <= bs.foldl min (bs.getD 0 0); rw [<- e]; exact this
  exact Int.le_antisymm b a
def rMnI (K : PySem.W.Frag) (f : List Int -> Int) : List V -> Hp -> VK -> Prop := fun xs H Q => ∃ (p : Addr) (bs : List Int), xs = [.ref p] /\ (SqL K H p (bs.map V.int) \/ SqT K H p (bs.map V.int)) /\ 0 < bs.length /\ Q (.int (f bs)) H
theorem ints_at {bs : List Int} {its : List Value} {i : Nat} {v : Value} (rv : zag (bs.map V.int) its) (hv : its.toArray[i]? = some v) : ∃ t, v = Value.int (bs.getD i 0) t := by
  simp only [List.getElem?_toArray] at hv
  obtain ⟨x, h1, h2⟩ := vals_get rv hv
  rw [List.getElem?_map] at h1
  cases e : bs[i]? with
  | none => rw [e] at h1; cases h1
  | some b =>
    rw [e] at h1; cases h1
    obtain ⟨t, rfl⟩ := h2
    exact ⟨t, by show Value.int b t = Value.int (bs.getD i 0) t; rw [List.getD_eq_getElem?_getD, e]; rfl⟩
theorem call_minI (hc : X.calm = true) : CallR X (.builtin "min") (rMnI X.K mnL) := by
  intro pins s st H xs us Q I r h
  obtain ⟨p, bs, rfl, hq, h0, q⟩ := h
  obtain ⟨u, rfl, ru⟩ := vals1 r
  cases ru
  refine call_min_walk (walk_seq (I.ok.hd hc) I hq fun its It fp St s2 rv W hz hf hI => ?_)
  have el : its.toArray.size = bs.length := by rw [List.size_toArray, <- rv.length, List.length_map]
  refine ⟨_, _, _, _, _, _, _, rfl, W, hz, hf, by omega, CmpOf.ints_lt (fun i => bs.getD i 0) (fun i v hv => ints_at rv hv), fun v h' tk hv hk => ?_⟩
  obtain ⟨t, rfl⟩ := ints_at rv hv
  obtain ⟨b1, b2⟩ := argBest_lt (fun i => bs.getD i 0) (its.toArray.size - 1)
  refine ⟨.int (mnL bs), H, hI h' tk hk, ⟨t, ?_⟩, q⟩
  rw [mnL_of (i := argBest (fun i j => decide (bs.getD i 0 < bs.getD j 0)) (its.toArray.size - 1)) (by omega) (fun j hj => b2 j (by omega))]
def oMnI (f : List Int -> Int) (xs : List D) : M D := fun σ => match xs with
  | [x] => (match (seqOf σ x).bind intsOf with
    | some (b :: bs) => .ok (.int (f (b :: bs))) σ
    | _ => .bad)
  | _ => .bad
theorem snd_mnI {f : List Int -> Int} (hK : T.K = X.K) : SndCall T (rMnI X.K f) (oMnI f) := by
  intro E μ H σ xs vs Q r p h
  match xs with
  | [] => exact h.elim
  | [x] =>
    rw [zaf] at p
    obtain ⟨v, w, rfl, p1, p2⟩ := p
    rw [zaf] at p2; subst p2
    unfold oMnI at h
    cases e : (seqOf σ x).bind intsOf with
    | none => simp only [e] at h; exact h.elim
    | some bs =>
      cases bs with
      | nil => simp only [e] at h; exact h.elim
      | cons b bs =>
        simp only [e] at h
        obtain ⟨ys, e1, e2⟩ := seq_bind e
        obtain ⟨a, vs, rfl, h1, h2⟩ := seq_rep r p1 e1
        rw [hK, ints_rep h1 e2] at h2
        exact ⟨a, b :: bs, rfl, h2, by simp, zad.here h r (by rw [Rep])⟩
  | _ :: _ :: _ => exact h.elim
end
end L4
namespace L4
open PySem PySem.Spec PyProof.Rows L2
def HasFnD (K : PySem.W.Frag) (mg : Str -> Option Value) (x : Str) (st : Stmt) (ps : List Str) (dv : List Value) : Prop :=
  ∃ f fd, mg x = some (.ref f) /\ PySem.W.keepIn K (.ref f) = true /\ (∃ (oc : Value) (od : Option Addr) (dV kV doc pm : Value) (an : Option Addr) (cdv ct : Value) (osl : Array (Option Value)),
    fd = PySem.W.fnOf x x (zam st) (zan st) (zao st) dV kV doc pm an cdv ct /\ K.lookup f = some ⟨oc, od, .func fd, osl⟩ /\ PySem.W.codeIn K cdv x = true) /\ Binds K fd ps [] /\ Binds K fd ps dv
def OkD (T : Tb) (P : Program) (w : World) (mg : Str -> Option Value) (base : Heap) (k : Nat) (x : Str) (ps : List Str) (dv : List Value) (fn : List D -> M D) : Prop :=
  ∃ f fd, mg x = some (.ref f) /\ PySem.W.keepIn T.K (.ref f) = true /\ Binds T.K fd ps [] /\ Binds T.K fd ps dv /\ FnOk P w T.K mg base (CXE P w) k f fd ps (spF T ps.length fn)
section
variable {T : Tb} {X : Cx}
theorem fe_callD1 {k : Nat} {ps : List Str} {dv : List Value} {dds : List D} {dvs : List V} {fn : List D -> M D} {x : Str} {p pos : Pos} {e : Expr} {es : List Expr} {fs : Ev -> M (List D)} (h : OkD T X.prog X.w X.mg X.base k x ps dv fn) (hK : T.K = X.K) (hr : Room k X.A) (hg : Gl X x) (hv : zag dvs dv) (hdd : ∀ μ H, zaf T μ H dds dvs)
    (ha : FA T X (e :: es) fs) (hdb : (x == ("__debug__" : Str)) = false := by decide) (he : starEach (e :: es) X.env = (false, eval e X.env) :: starEach es X.env := by rfl) (hpl : (backTo pos (starEach es X.env)).any (·.1) = false := by rfl) :
    FE T X (.Call (.Name x p) (e :: es) [] pos) (eFn ps.length fn dds fs) := by
  obtain ⟨f, fd, hm, hk, _, hb, hF⟩ := h
  rw [hK] at hk hF hb
  exact fe_call (dds := dds) (dvs := dvs) hF hr hg hm hk hb hv hdd ha hdb he hpl
theorem vals_non : zag [V.non] [Value.none] := .cons rfl .nil
theorem repl_non {T : Tb} (μ : List Addr) (H : Hp) : zaf T μ H [D.non] [V.non] := zaf.cons (by rw [Rep]) zaf.nil
variable {P : Program} {w : World} {K : PySem.W.Frag} {mg : Str -> Option Value} {base : Heap} {ca : Nat -> Addr}
theorem ok_ofD {k : Nat} {x : Str} {st : Stmt} {ps N : List Str} {dv : List Value} {g : Ev -> M Fl} (h : HasFnD K mg x st ps dv) (S : FnScope N ps (zao st))
    (hb : ∀ (f : Addr) (cdv : Value) (A : Around) (outer : List Env) (s : Shared) (H : Hp) (E : XK), Room k (A.deeper (envOfC x (zao st) s.heap.objs.size f cdv)) -> FSs ⟨K, ca⟩ (cxOf (CXE P w) P w K mg base N x (zao st) f cdv A outer s H E) (zan st) g) :
    OkD ⟨K, ca⟩ P w mg base (k + 1) x ps dv (run N.length g) := by
  obtain ⟨f, fd, hm, hk, ⟨oc, od, dV, kV, doc, pm, an, cdv, ct, osl, rfl, lk, hcd⟩, b0, b1⟩ := h
  exact ⟨f, _, hm, hk, b0, b1, fok lk hcd S (hb f cdv)⟩
theorem OkD.frz {k : Nat} {x : Str} {ps : List Str} {dv : List Value} {fn : List D -> M D} (h : OkD T P w mg base k x ps dv fn) : OkD T P w mg base k x ps dv (fun ds => L4.frz (fn ds)) := by
  obtain ⟨f, fd, h1, h2, h3, h4, h5⟩ := h
  exact ⟨f, fd, h1, h2, h3, h4, fok_frz h5⟩
theorem mkFD {h : Heap} {x : Str} {st : Stmt} {ps : List Str} {f t : Addr} {dv : List Value} {oc toc : Value} {od an tod : Option Addr} {osl tsl : Array (Option Value)} {kV doc pm cdv ct : Value} {tn : Nat} (X : K.In h) (G : h.Ns mainGlobals mg)
    (hb : ∀ (t : Addr) (kV doc pm : Value) (an : Option Addr) (cdv ct : Value) (s : Shared) (o : Obj) (n : Nat) (us : List Value), s.heap.get? t = some o -> o.data = .seq dv.toArray n -> ((us ++ []).length = ps.length -> BindsTo s (PySem.W.fnOf x x (zam st) (zan st) (zao st) (.ref t) kV doc pm an cdv ct) ⟨us, []⟩ (ps.zip (us ++ []))) /\
      ((us ++ dv).length = ps.length -> BindsTo s (PySem.W.fnOf x x (zam st) (zan st) (zao st) (.ref t) kV doc pm an cdv ct) ⟨us, []⟩ (ps.zip (us ++ dv))))
    (a : PySem.W.nsIn K mainGlobals x = some (some (.ref f))) (l : K.lookup f = some ⟨oc, od, .func (PySem.W.fnOf x x (zam st) (zan st) (zao st) (.ref t) kV doc pm an cdv ct), osl⟩)
    (c : PySem.W.codeIn K cdv x = true) (k : PySem.W.keepIn K (.ref f) = true) (d : K.lookup t = some ⟨toc, tod, .seq dv.toArray tn, tsl⟩) : HasFnD K mg x st ps dv :=
  ⟨f, _, PySem.W.mg_of X G a, k, ⟨oc, od, _, kV, doc, pm, an, cdv, ct, osl, rfl, l, c⟩, fun s us KX hl => (hb t kV doc pm an cdv ct s _ tn us (KX _ _ d) rfl).1 hl, fun s us KX hl => (hb t kV doc pm an cdv ct s _ tn us (KX _ _ d) rfl).2 hl⟩
end
def htab (l : List (Nat × Bool)) : Nat -> Option Bool := fun c => l.lookup c
abbrev veB : List Value := [.type "ValueError", .type "Exception", .type "BaseException", .type "object"]
def HtOk (K : PySem.W.Frag) (ca : Nat -> Addr) (cv : Value) (l : List (Nat × Bool)) : Prop := ∀ p ∈ l, PySem.W.exmOne K (.ref (ca p.1)) cv = some p.2
theorem ht_nil {K : PySem.W.Frag} {ca : Nat -> Addr} {cv : Value} : HtOk K ca cv [] := fun _ h => nomatch h
theorem ht_cons {K : PySem.W.Frag} {ca : Nat -> Addr} {cv : Value} {c : Nat} {b : Bool} {l : List (Nat × Bool)} (h : PySem.W.exmOne K (.ref (ca c)) cv = some b) (r : HtOk K ca cv l) : HtOk K ca cv ((c, b) :: l) := fun p hp => by
  rcases List.mem_cons.mp hp with rfl | hp
  · exact h
  · exact r p hp
theorem lk_mem : ∀ {l : List (Nat × Bool)} {c : Nat} {b : Bool}, l.lookup c = some b -> (c, b) ∈ l
  | [], _, _, h => by simp at h
  | (n, d) :: r, c, b, h => by
    rw [List.lookup_cons] at h
    cases e : c == n with
    | true => rw [e] at h; cases h; rw [eq_of_beq e]; exact List.mem_cons_self
    | false => rw [e] at h; exact List.mem_cons_of_mem _ (lk_mem h)
theorem ht_of {K : PySem.W.Frag} {ca : Nat -> Addr} {cv : Value} {l : List (Nat × Bool)} (h : HtOk K ca cv l) : ∀ c b, htab l c = some b -> PySem.W.exmOne K (.ref (ca c)) cv = some b := fun c b e => h (c, b) (lk_mem e)
def oRep (x y : D) : M D := fun σ => match y with
  | .int k => (match lsOf σ x with
    | some xs => if (decide (0 <= k) && decide (k <= 1000) && decide (xs.length * k.toNat <= cap)) = true then .ok (.lst (List.replicate k.toNat xs).flatten) σ else .bad
    | none => .bad)
  | _ => .bad
theorem repl_rep {T : Tb} {μ : List Addr} {H : Hp} {xs : List D} {vs : List V} (r : zaf T μ H xs vs) : ∀ n, zaf T μ H (List.replicate n xs).flatten (List.replicate n vs).flatten
  | 0 => zaf.nil
  | n + 1 => by rw [List.replicate_succ, List.replicate_succ, List.flatten_cons, List.flatten_cons]; exact zaf.append r (repl_rep r n)
theorem op_repD {T : Tb} {X : Cx} : OpR X (binaryOp .Mult) (rD T oRep) := by
  intro pins s st H v u v' u' Q I rv ru h
  obtain ⟨E, μ, σ, x, y, r, hx, hy, hp⟩ := h
  unfold oRep at hp
  cases y with
  | int k =>
    dsimp only at hp
    cases e : lsOf σ x with
    | none => rw [e] at hp; exact hp.elim
    | some xs =>
      rw [e] at hp
      dsimp only at hp
      by_cases hc : (decide (0 <= k) && decide (k <= 1000) && decide (xs.length * k.toNat <= cap)) = true
      · rw [if_pos hc] at hp
        simp only [Bool.and_eq_true, decide_eq_true_eq] at hc
        obtain ⟨a, vs, rfl, h1, h2⟩ := r.ls hx e
        exact op_rep pins s st H _ _ v' u' Q I rv ru ⟨a, k, vs, rfl, zbv hy, h1, by omega, by omega, by rw [<- h2.length]; exact cap_le hc.2, fun l hl => new_lv hp r (repl_rep h2 k.toNat) hl⟩
      · rw [if_neg hc] at hp; exact hp.elim
  | _ => exact hp.elim
theorem OkF.hide {T : Tb} {P : Program} {w : World} {mg : Str -> Option Value} {base : Heap} {k : Nat} {x : Str} {ps : List Str} {fn : List D -> M D} (h : OkF T P w mg base k x ps fn) : OkF T P w mg base k x ps (L4.hide fn) := by rw [zbt]; exact h
theorem OkD.hide {T : Tb} {P : Program} {w : World} {mg : Str -> Option Value} {base : Heap} {k : Nat} {x : Str} {ps : List Str} {dv : List Value} {fn : List D -> M D} (h : OkD T P w mg base k x ps dv fn) : OkD T P w mg base k x ps dv (L4.hide fn) := by rw [zbt]; exact h
end L4
namespace L4
open PySem PySem.Spec PyProof.Rows L2
section
variable {T : Tb} {X : Cx} {μ : List Addr} {H : Hp} {σ : Sto}
def insOf (σ : Sto) : D -> Option (Nat × List (Str × D))
  | .obj c ns ds => if ns.length = ds.length then some (c, ns.zip ds) else none
  | .ref n => match σ[n]? with
    | some (.ins c fs) => some (c, fs)
    | _ => none
  | _ => none
theorem repF_zip : ∀ {ns : List Str} {ds : List D} {fs : List (Str × V)}, fs.map (·.1) = ns -> zaf T μ H ds (fs.map (·.2)) -> RepF T μ H (ns.zip ds) fs
  | [], ds, [], _, h => by
    rw [List.map_nil] at h
    cases ds with
    | nil => exact Paired.nil
    | cons d ds => have := h.length; simp at this
  | [], ds, f :: fs, e, _ => by simp at e
  | n :: ns, ds, [], e, _ => by simp at e
  | n :: ns, [], f :: fs, e, h => by have := h.length; simp at this
  | n :: ns, d :: ds, f :: fs, e, h => by
    simp only [List.map_cons, List.cons.injEq] at e
    rw [List.map_cons, zaf] at h
    obtain ⟨v, r, e2, h1, h2⟩ := h
    simp only [List.cons.injEq] at e2
    obtain ⟨e3, e4⟩ := e2
    subst e4
    exact Paired.cons ⟨e.1.symm, by rw [e3]; exact h1⟩ (repF_zip e.2 h2)
theorem ins_rep (r : Rel T μ H σ) {d : D} {v : V} {c : Nat} {fs : List (Str × D)} (h : Rep T μ H d v) (e : insOf σ d = some (c, fs)) : ∃ a dx vs, v = .ref a /\ H a = some (.ins (T.ca c) dx vs) /\ RepF T μ H fs vs := by
  cases d with
  | obj c' ns ds =>
    unfold insOf at e
    by_cases hl : ns.length = ds.length
    · simp only [hl, if_true, Option.some.injEq, Prod.mk.injEq] at e
      obtain ⟨rfl, rfl⟩ := e
      rw [Rep] at h
      obtain ⟨a, dx, vs, rfl, _, h3, h4, h5⟩ := h
      exact ⟨a, dx, vs, rfl, h3, repF_zip h4 h5⟩
    · simp [hl] at e
  | ref n =>
    unfold insOf at e; dsimp only at e
    cases es : σ[n]? with
    | none => rw [es] at e; cases e
    | some o =>
      rw [es] at e
      obtain ⟨a, rfl, _, h2⟩ := r.at h es
      cases o with
      | ins c' fs' => cases e; obtain ⟨dx, vs, h3, h4⟩ := h2; exact ⟨a, dx, vs, rfl, h3, h4⟩
      | lst _ => cases e
      | dic _ => cases e
  | _ => cases e
theorem look_rep {f : Str} : ∀ {fs : List (Str × D)} {vs : List (Str × V)}, RepF T μ H fs vs -> (∀ d, fs.lookup f = some d -> ∃ v, vs.lookup f = some v /\ Rep T μ H d v) /\ (fs.lookup f = none -> vs.lookup f = none)
  | _, _, .nil => ⟨fun d e => by simp at e, fun _ => rfl⟩
  | (g, x) :: fs, (g', v) :: vs, .cons ⟨e, h⟩ t => by
    have e' : g = g' := e
    subst e'
    obtain ⟨h1, h2⟩ := look_rep t
    by_cases hg : (f == g) = true
    · refine ⟨fun d q => ?_, fun q => ?_⟩
      · rw [List.lookup_cons, hg] at q; cases q
        exact ⟨v, by rw [List.lookup_cons, hg], h⟩
      · rw [List.lookup_cons, hg] at q; cases q
    · have hg' : (f == g) = false := by simpa using hg
      refine ⟨fun d q => ?_, fun q => ?_⟩
      · rw [List.lookup_cons, hg'] at q
        obtain ⟨w, q1, q2⟩ := h1 d q
        exact ⟨w, by rw [List.lookup_cons, hg']; exact q1, q2⟩
      · rw [List.lookup_cons, hg'] at q
        rw [List.lookup_cons, hg']; exact h2 q
def FldOk (T : Tb) (cs : List Nat) (f : Str) : Prop := ∀ c, cs.contains c = true -> Cls T.K (T.ca c) /\ zab T.K (T.ca c) f
theorem zbj {f : Str} : FldOk T [] f := fun c h => by simp at h
theorem zbi {f : Str} {c : Nat} {cs : List Nat} (h1 : Cls T.K (T.ca c)) (h2 : zab T.K (T.ca c) f) (h : FldOk T cs f) : FldOk T (c :: cs) f := fun d hd => by
  rw [List.contains_cons, Bool.or_eq_true, beq_iff_eq] at hd
  rcases hd with rfl | hd
  · exact ⟨h1, h2⟩
  · exact h d hd
def oFld (cs : List Nat) (f : Str) (x : D) : M D := fun σ => match insOf σ x with
  | some (c, fs) => if cs.contains c = true then (match fs.lookup f with
    | some d => .ok d σ
    | none => .bad) else .bad
  | none => .bad
theorem zax {e : Expr} {f : Str} {g : Ev -> M D} {pos : Pos} {cs : List Nat} (hK : T.K = X.K) (hc : FldOk T cs f) (he : FE T X e g)
    (hb : attributeBase e f X.env (eval e X.env) = eval e X.env := by rfl) : FE T X (.Attribute e f pos) (eUn (oFld cs f) g) := by
  intro pins s st H Q I h
  refine pe_fld he hb pins s st H Q I ?_
  obtain ⟨μ, ρ, σ, hE, hr, hp⟩ := h
  refine ⟨μ, ρ, σ, hE, hr, zad.bind hp fun d σ1 μ1 v H1 _ e1 r1 q1 p1 => ?_⟩
  unfold oFld at p1
  cases ei : insOf σ1 d with
  | none => rw [ei] at p1; exact p1.elim
  | some p =>
    obtain ⟨c, fs⟩ := p
    rw [ei] at p1; dsimp only at p1
    by_cases hcc : cs.contains c = true
    · rw [if_pos hcc] at p1
      obtain ⟨a, dx, vs, rfl, h1, h2⟩ := ins_rep r1 q1 ei
      cases el : fs.lookup f with
      | none => rw [el] at p1; exact p1.elim
      | some y =>
        rw [el] at p1
        obtain ⟨w, h3, h4⟩ := (look_rep h2).1 y el
        obtain ⟨k1, k2⟩ := hc c hcc
        rw [hK] at k1 k2
        exact ⟨a, _, dx, vs, w, rfl, h1, k1, k2, h3, zad.here p1 r1 h4⟩
    · rw [if_neg hcc] at p1; exact p1.elim
def putD (f : Str) (v : D) : List (Str × D) -> List (Str × D)
  | [] => [(f, v)]
  | (g, x) :: r => if g = f then (g, v) :: r else (g, x) :: putD f v r
theorem put_rep {f : Str} {d : D} {v : V} (hd : Rep T μ H d v) : ∀ {fs : List (Str × D)} {vs : List (Str × V)}, RepF T μ H fs vs -> RepF T μ H (putD f d fs) (putF f v vs)
  | _, _, .nil => Paired.cons ⟨rfl, hd⟩ Paired.nil
  | (g, x) :: fs, (g', w) :: vs, .cons ⟨e, h⟩ t => by
    have e' : g = g' := e
    subst e'
    unfold putD putF
    by_cases hg : g = f
    · rw [if_pos hg, if_pos hg]; exact Paired.cons ⟨rfl, hd⟩ t
    · rw [if_neg hg, if_neg hg]; exact Paired.cons ⟨rfl, h⟩ (put_rep hd t)
theorem RepF.mono {μ' : List Addr} {H' : Hp} (e : Ext μ H μ' H') {fs : List (Str × D)} {vs : List (Str × V)} (h : RepF T μ H fs vs) : RepF T μ' H' fs vs := Paired.mapP h fun _ _ q => ⟨q.1, Rep.mono e _ _ q.2⟩
theorem RepF.length {fs : List (Str × D)} {vs : List (Str × V)} (h : RepF T μ H fs vs) : fs.length = vs.length := Paired.length h
def oPut (cs : List Nat) (f : Str) (d x : D) : M Unit := fun σ => match x with
  | .ref n => (match σ[n]? with
    | some (.ins c fs) => if (cs.contains c && decide (fs.length < 1000)) = true then .ok () (σ.set n (.ins c (putD f d fs))) else .bad
    | _ => .bad)
  | _ => .bad
def putK2 (ρ : Ev) (cs : List Nat) (f : Str) (d x : D) : M Fl := fun σ => match oPut cs f d x σ with
  | .ok _ σ' => .ok (.nx ρ) σ'
  | _ => .bad
def putK1 (ρ : Ev) (cs : List Nat) (f : Str) (fo : Ev -> M D) (d : D) : M Fl := xs ρ (fo ρ) (putK2 ρ cs f d)
def sPut (cs : List Nat) (f : Str) (fv fo : Ev -> M D) : Ev -> M Fl := fun ρ => xs ρ (fv ρ) (putK1 ρ cs f fo)
theorem fs_fld {o value : Expr} {f : Str} {fv fo : Ev -> M D} {pos pos' : Pos} {cs : List Nat} (hK : T.K = X.K) (hc : FldOk T cs f) (ho : FE T X o fo) (hv : FE T X value fv)
    (hs : swapsWith value (some (.Attribute o f pos')) pos.line X.env = pure false := by rfl) : FS T X (.Assign [.Attribute o f pos'] value pos) (sPut cs f fv fo) := by
  intro pins s st H D I hq
  refine ps_fld ho hv hs pins s st H D I ?_
  obtain ⟨μ, ρ, σ, hE, hr, hp⟩ := hq
  refine ⟨μ, ρ, σ, hE, hr, hp.xs hE fun d σ1 μ1 v H1 _ e1 r1 q1 p1 => ?_⟩
  refine ⟨μ1, ρ, σ1, hE.mono e1, r1, p1.xs (hE.mono e1) fun x σ2 μ2 vo H2 _ e2 r2 q2 p2 => ?_⟩
  have hd := Rep.mono e2 _ _ q1
  unfold putK2 oPut at p2
  cases x with
  | ref n =>
    dsimp only at p2
    cases el : σ2[n]? with
    | none => rw [el] at p2; exact p2.elim
    | some ob =>
      rw [el] at p2
      cases ob with
      | lst _ => exact p2.elim
      | dic _ => exact p2.elim
      | ins c fs =>
        dsimp only at p2
        by_cases hcc : (cs.contains c && decide (fs.length < 1000)) = true
        · rw [if_pos hcc] at p2
          rw [Bool.and_eq_true, decide_eq_true_eq] at hcc
          obtain ⟨a, rfl, hn, dx, vs, h1, h2⟩ := r2.at q2 el
          have ex : Ext μ2 H2 μ2 (upd H2 a (.ins (T.ca c) dx (putF f v vs))) := ext_write (List.mem_of_getElem? hn) h1 (fun _ z => by cases z) (fun _ _ z => by cases z)
          have wr := r2.write (o := .ins (T.ca c) dx (putF f v vs)) (ob := .ins c (putD f d fs)) hn ⟨dx, _, upd_same, put_rep (Rep.mono ex _ _ hd) (RepF.mono ex h2)⟩
          obtain ⟨k1, k2⟩ := hc c hcc.1
          rw [hK] at k1 k2
          exact ⟨a, _, dx, vs, rfl, h1, k1, k2, by rw [<- h2.length]; exact hcc.2, p2 _ (.nx st) _ wr.1 wr.2 ((hE.mono e1).mono e2 |>.mono wr.1)⟩
        · rw [if_neg hcc] at p2; exact p2.elim
  | _ => exact p2.elim
def noneO (n : Nat) : Out D -> Out D
  | .ok .non σ' => .ok (.ref n) σ'
  | .ok _ _ => .bad
  | .ex x σ' => .ex x σ'
  | .bad => .bad
def makeK (c n : Nat) (fn : List D -> M D) (ds : List D) : M D := fun σ => if ds.length + 1 = n then noneO σ.length (fn (.ref σ.length :: ds) (σ ++ [.ins c []])) else .bad
def eMake (c n : Nat) (fn : List D -> M D) (fs : Ev -> M (List D)) : Ev -> M D := fun ρ => bnd (fs ρ) (makeK c n fn)
def OkA (T : Tb) (P : Program) (w : World) (mg : Str -> Option Value) (base : Heap) (k : Nat) (f : Addr) (ps : List Str) (fn : List D -> M D) : Prop :=
  ∃ fd, (∀ us : List Value, us.length = ps.length -> bindArgs fd ⟨us, []⟩ = pure (ps.zip us)) /\ FnOk P w T.K mg base (CXE P w) k f fd ps (spF T ps.length fn)
def OkC (T : Tb) (P : Program) (w : World) (mg : Str -> Option Value) (base : Heap) (k : Nat) (x : Str) (c : Nat) (ps : List Str) (fn : List D -> M D) : Prop :=
  ∃ f, mg x = some (.ref (T.ca c)) /\ Mk T.K (T.ca c) f /\ OkA T P w mg base k f ps fn
theorem make_post {E : XK} {c : Nat} {ps : List Str} {fn : List D -> M D} {ds : List D} {vs : List V} {Q : VK} (r : Rel T μ H σ) (q : zaf T μ H ds vs) (p : zad T E (Rep T) μ H (makeK c ps.length fn ds σ) Q) :
    ∀ x dx, H x = none -> H dx = none -> dx ≠ x -> spF T ps.length fn (.ref x :: (vs ++ [])) (upd (upd H dx (.own x)) x (.ins (T.ca c) dx [])) (fun v H2 => v = .non /\ Q (.ref x) H2) E := by
  intro x dx hx hdx hne
  unfold makeK at p
  by_cases hl : ds.length + 1 = ps.length
  · rw [if_pos hl] at p
    have ex1 : Ext μ H μ (upd H dx (.own x)) := ext_new hdx
    have r1 : Rel T μ (upd H dx (.own x)) σ := r.fresh hdx
    have hx1 : upd H dx (.own x) x = none := by unfold upd; rw [if_neg (Ne.symm hne)]; exact hx
    have ex2 : Ext μ (upd H dx (.own x)) (μ ++ [x]) (upd (upd H dx (.own x)) x (.ins (T.ca c) dx [])) := ext_push hx1
    have r2 : Rel T (μ ++ [x]) (upd (upd H dx (.own x)) x (.ins (T.ca c) dx [])) (σ ++ [.ins c []]) := r1.push hx1 ⟨dx, [], upd_same, Paired.nil⟩
    refine ⟨μ ++ [x], σ ++ [.ins c []], .ref σ.length :: ds, zaf.cons (rep_push r1) (by rw [List.append_nil]; exact zaf.mono (ex1.trans ex2) _ _ q), by rw [List.length_cons]; exact hl, r2, ?_⟩
    cases e : fn (.ref σ.length :: ds) (σ ++ [.ins c []]) with
    | bad => rw [e] at p; exact p.elim
    | ex y σ' => rw [e] at p; exact fun μ' H' e' r' => p μ' H' ((ex1.trans ex2).trans e') r'
    | ok d σ' =>
      rw [e] at p
      intro μ' v H' e' r' q'
      have hv : d = .non := by cases d <;> first | rfl | exact p.elim
      subst hv
      rw [Rep] at q'
      refine ⟨q', p μ' (.ref x) H' ((ex1.trans ex2).trans e') r' ?_⟩
      exact Rep.mono e' _ _ (rep_push r1)
  · rw [if_neg hl] at p; exact p.elim
theorem run_makeX {k : Nat} {C f : Addr} {fd : FuncData} {ps : List Str} {sp : Sp} {dvs : List V} {ds : List Value} {pins : List (Addr × Obj)} {st : St} {H : Hp} {s : Shared} {Q : VK} {us : List Value} {vs : List V} (M : Mk X.K C f) (F : FnOk X.prog X.w X.K X.mg X.base (CXE X.prog X.w) k f fd ps sp) (hr : Room (k + 1) X.A) (hb : Binds X.K fd ps ds) (hd : zag dvs ds)
    (I : Inv X pins st H s) (r : zag vs us)
    (h : ∀ x dx, H x = none -> H dx = none -> dx ≠ x -> sp (.ref x :: (vs ++ dvs)) (upd (upd H dx (.own x)) x (.ins C dx [])) (fun v H2 => v = .non /\ Q (.ref x) H2) (XE X st)) :
    wpAny (model X.prog X.w) X.A (call (.ref C) us) (EP X pins st Q) X.xe s := by
  have hq := h (s.heap.objs.size + 1) s.heap.objs.size (I.hok.fresh (Nat.le_succ _)) (I.hok.fresh (Nat.le_refl _)) (Nat.ne_of_lt (Nat.lt_succ_self _))
  have I2 := Inv.made (C := C) I
  have r2 : zag (V.ref (s.heap.objs.size + 1) :: (vs ++ dvs)) (Value.ref (s.heap.objs.size + 1) :: (us ++ ds)) := .cons rfl (r.append hd)
  have hl : (Value.ref (s.heap.objs.size + 1) :: us ++ ds).length = ps.length := by
    have e := r2.length
    rw [F.len _ _ _ _ hq] at e
    exact e.symm
  refine wpAny_call (make_map (f := f) I.kIn M.makes M.init (beq_iff_eq.mp M.fn) (codeAny_mono (F.run _ X.stack _ _ ⟨Value.ref (s.heap.objs.size + 1) :: us, []⟩ (Value.ref (s.heap.objs.size + 1) :: (us ++ ds)) _ _ (XE X st) (hr.make C us [])
    (I2.env0.make C us []) (hb _ (Value.ref (s.heap.objs.size + 1) :: us) I2.kIn hl) r2 hq) fun r s' hq' => ?_))
  cases r with
  | error e => obtain ⟨cls, H', hfly, ht⟩ := hq'; exact ht.fly pins _ _ e s' I2 hfly
  | ok fl =>
    cases fl with
    | ret u =>
      obtain ⟨v, H', I3, rv, ev, q3⟩ := I2.after hq'
      subst ev
      exact ⟨rv, ⟨V.ref (s.heap.objs.size + 1), H', I3, rfl, q3⟩⟩
    | next => exact False.elim hq'
    | brk => exact False.elim hq'
    | cont => exact False.elim hq'
theorem fe_make {k c : Nat} {ps : List Str} {fn : List D -> M D} {x : Str} {p pos : Pos} {e : Expr} {es : List Expr} {fs : Ev -> M (List D)} (h : OkC T X.prog X.w X.mg X.base k x c ps fn) (hK : T.K = X.K) (hr : Room (k + 1) X.A) (hg : Gl X x)
    (ha : FA T X (e :: es) fs) (hdb : (x == ("__debug__" : Str)) = false := by decide) (he : starEach (e :: es) X.env = (false, eval e X.env) :: starEach es X.env := by rfl) (hpl : (backTo pos (starEach es X.env)).any (·.1) = false := by rfl) :
    FE T X (.Call (.Name x p) (e :: es) [] pos) (eMake c ps.length fn fs) := by
  obtain ⟨f, hm, hM, fd, hb, hF⟩ := h
  rw [hK] at hM hF
  intro pins s st H Q I hq
  obtain ⟨μ, ρ, σ, hE, hr', hp⟩ := hq
  refine wpAny_Call_Name_kw (ld_glob I hg hm ?_ hdb)
  refine PySem.W.callWith_K (h₀ := X.base) I.ok.mod.kin hM.kp (thn (ha pos pins s st H (fun vs H1 => ∀ x dx, H1 x = none -> H1 dx = none -> dx ≠ x -> spF T ps.length fn (.ref x :: (vs ++ [])) (upd (upd H1 dx (.own x)) x (.ins (T.ca c) dx [])) (fun v H2 => v = .non /\ Q (.ref x) H2) (XE X st)) I ⟨μ, ρ, σ, hE, hr', hp.bind fun ds σ1 μ1 vs H1 _ e1 r1 p1 q1 => make_post r1 p1 q1⟩) fun us s1 ⟨vs, H1, I1, r, q⟩ => ⟨I1.kIn, ?_⟩) he hpl
  exact run_makeX (ds := []) (dvs := []) hM hF hr (.all hb) .nil I1 r q
structure OkM (T : Tb) (P : Program) (w : World) (mg : Str -> Option Value) (base : Heap) (k : Nat) (m : Str) (c : Nat) (ps : List Str) (fn : List D -> M D) : Prop where
  cl : Cls T.K (T.ca c)
  ex : ∃ f, Meth T.K (T.ca c) m f /\ OkA T P w mg base k f ps fn
abbrev Mt := List (Nat × (List D -> M D))
def lkM : Mt -> Nat -> Option (List D -> M D)
  | [], _ => none
  | (c, fn) :: r, d => if c == d then some fn else lkM r d
def mthK2 (n : Nat) (fn : List D -> M D) (x : D) (ds : List D) : M D := if ds.length + 1 = n then fn (x :: ds) else bad
def mthK (tb : Mt) (n : Nat) (m : Str) (fs : M (List D)) (x : D) : M D := fun σ => match insOf σ x with
  | some (c, gs) => (match lkM tb c, gs.lookup m with
    | some fn, none => bnd fs (mthK2 n fn x) σ
    | _, _ => .bad)
  | none => .bad
def eMth (tb : Mt) (n : Nat) (m : Str) (f : Ev -> M D) (fs : Ev -> M (List D)) : Ev -> M D := fun ρ => bnd (f ρ) (mthK tb n m (fs ρ))
theorem lkM_mem : ∀ {tb : Mt} {c : Nat} {fn : List D -> M D}, lkM tb c = some fn -> (c, fn) ∈ tb
  | [], _, _, h => by cases h
  | (d, g) :: r, c, fn, h => by
    unfold lkM at h
    by_cases e : (d == c) = true
    · rw [if_pos e] at h; cases h
      rw [beq_iff_eq.mp e]; exact List.mem_cons_self
    · rw [if_neg e] at h; exact List.mem_cons_of_mem _ (lkM_mem h)
theorem zbb {pl : Sem Bool} {k : Nat} {tb : Mt} {ps : List Str} {m : Str} {o e : Expr} {es : List Expr} {f : Ev -> M D} {fs : Ev -> M (List D)} {pos apos : Pos} (hK : T.K = X.K) (he : FE T X o f) (h : ∀ q ∈ tb, OkM T X.prog X.w X.mg X.base k m q.1 ps q.2) (hr : Room k X.A) (ha : FA T X (e :: es) fs)
    (hst : starEach (e :: es) X.env = (false, eval e X.env) :: starEach es X.env := by rfl) (hpl : (backTo pos (starEach es X.env)).any (·.1) = false := by rfl)
    (ht : eval (.Call (.Attribute o m apos) (e :: es) [] pos) X.env = (do
      let ov <- eval o X.env
      standAt apos.atName
      let (f, first) <- holding [ov] (getMethod ov m pl)
      callWith pos f first (backTo pos (starEach (e :: es) X.env)) (backToKw pos (keywordEach [] X.env))) := by rfl) :
    FE T X (.Call (.Attribute o m apos) (e :: es) [] pos) (eMth tb ps.length m f fs) := by
  intro pins s st H Q I hq
  obtain ⟨μ, ρ, σ, hE, hr', hp⟩ := hq
  have hE' := hE
  refine PySem.W.methodCall_KW (pl := pl) (thn (he pins s st H (fun x H1 => ∃ a c dx vs fn, x = .ref a /\ H1 a = some (.ins (T.ca c) dx vs) /\ lkM tb c = some fn /\ vs.lookup m = none /\ tL T X fs st H1 fun us H2 => spF T ps.length fn (x :: (us ++ [])) H2 Q (XE X st)) I ⟨μ, ρ, σ, hE, hr', hp.bind fun d σ1 μ1 v H1 _ e1 r1 q1 p1 => ?_⟩) fun u s1 ⟨x, H1, I1, rx, a, c, dx, vs, fn, ex, ea, el, en, q⟩ => ?_) ht
  · unfold mthK at p1
    cases ei : insOf σ1 d with
    | none => rw [ei] at p1; exact p1.elim
    | some z =>
      obtain ⟨c, gs⟩ := z
      rw [ei] at p1; dsimp only at p1
      cases el : lkM tb c with
      | none => rw [el] at p1; exact p1.elim
      | some fn =>
        cases en : gs.lookup m with
        | some y => rw [el, en] at p1; exact p1.elim
        | none =>
          rw [el, en] at p1; dsimp only at p1
          obtain ⟨a, dx, vs, rfl, h1, h2⟩ := ins_rep r1 q1 ei
          refine ⟨a, c, dx, vs, fn, rfl, h1, el, (look_rep h2).2 en, μ1, ρ, σ1, hE'.mono e1, r1, p1.bind fun ds σ2 μ2 us H2 _ e2 r2 q2 p2 => ?_⟩
          unfold mthK2 at p2
          by_cases hl : ds.length + 1 = ps.length
          · rw [if_pos hl] at p2
            exact ⟨μ2, σ2, d :: ds, zaf.cons (Rep.mono e2 _ _ q1) (by rw [List.append_nil]; exact q2), by rw [List.length_cons]; exact hl, r2, p2⟩
          · rw [if_neg hl] at p2; exact p2.elim
  · subst ex
    obtain rfl : u = Value.ref a := rx
    obtain ⟨hC, f', hM, fd, hb, hF⟩ := h _ (lkM_mem el)
    rw [hK] at hC hM hF
    refine getmeth_ok I1 ea hC hM en ?_
    refine PySem.W.callWith_K (first := [.ref a]) (h₀ := X.base) I.ok.mod.kin hM.kp (thn (ha pos pins s1 st H1 _ I1 q) fun us s2 ⟨vs, H2, I2, r, q2⟩ => ⟨I2.kIn, ?_⟩) hst hpl
    exact run_fnX (us := .ref a :: us) (vs := .ref a :: vs) hF hr (.all hb) .nil I2 (.cons rfl r) q2
theorem fe_mth0 {pl : Sem Bool} {k : Nat} {tb : Mt} {ps : List Str} {m : Str} {o : Expr} {f : Ev -> M D} {pos apos : Pos} (hK : T.K = X.K) (he : FE T X o f) (h : ∀ q ∈ tb, OkM T X.prog X.w X.mg X.base k m q.1 ps q.2) (hr : Room k X.A)
    (ht : eval (.Call (.Attribute o m apos) [] [] pos) X.env = (do
      let ov <- eval o X.env
      standAt apos.atName
      let (f, first) <- holding [ov] (getMethod ov m pl)
      callWith pos f first (backTo pos (starEach [] X.env)) (backToKw pos (keywordEach [] X.env))) := by rfl) :
    FE T X (.Call (.Attribute o m apos) [] [] pos) (eMth tb ps.length m f zai) := by
  intro pins s st H Q I hq
  obtain ⟨μ, ρ, σ, hE, hr', hp⟩ := hq
  refine PySem.W.methodCall_KW (pl := pl) (thn (he pins s st H (fun x H1 => ∃ a c dx vs fn, x = .ref a /\ H1 a = some (.ins (T.ca c) dx vs) /\ lkM tb c = some fn /\ vs.lookup m = none /\ spF T ps.length fn (x :: ([] ++ [])) H1 Q (XE X st)) I ⟨μ, ρ, σ, hE, hr', hp.bind fun d σ1 μ1 v H1 _ e1 r1 q1 p1 => ?_⟩) fun u s1 ⟨x, H1, I1, rx, a, c, dx, vs, fn, ex, ea, el, en, q⟩ => ?_) ht
  · unfold mthK at p1
    cases ei : insOf σ1 d with
    | none => rw [ei] at p1; exact p1.elim
    | some z =>
      obtain ⟨c, gs⟩ := z
      rw [ei] at p1; dsimp only at p1
      cases el : lkM tb c with
      | none => rw [el] at p1; exact p1.elim
      | some fn =>
        cases en : gs.lookup m with
        | some y => rw [el, en] at p1; exact p1.elim
        | none =>
          rw [el, en] at p1; dsimp only at p1
          obtain ⟨a, dx, vs, rfl, h1, h2⟩ := ins_rep r1 q1 ei
          have p2 : zad T (XE X st) (Rep T) μ1 H1 (mthK2 ps.length fn d [] σ1) Q := p1
          unfold mthK2 at p2
          by_cases hl : ([] : List D).length + 1 = ps.length
          · rw [if_pos hl] at p2
            exact ⟨a, c, dx, vs, fn, rfl, h1, el, (look_rep h2).2 en, μ1, σ1, [d], zaf.cons q1 zaf.nil, hl, r1, p2⟩
          · rw [if_neg hl] at p2; exact p2.elim
  · subst ex
    obtain rfl : u = Value.ref a := rx
    obtain ⟨hC, f', hM, fd, hb, hF⟩ := h _ (lkM_mem el)
    rw [hK] at hC hM hF
    refine getmeth_ok I1 ea hC hM en ?_
    exact PySem.W.callWith_K0 (first := [.ref a]) I1.kIn hM.kp (run_fnX (us := [.ref a]) (vs := [.ref a]) hF hr (.all hb) .nil I1 (.cons rfl .nil) q)
structure OkU (T : Tb) (P : Program) (w : World) (mg : Str -> Option Value) (base : Heap) (k : Nat) (x m : Str) (c : Nat) (ps : List Str) (fn : List D -> M D) : Prop where
  gl : mg x = some (.ref (T.ca c))
  sp : PySem.W.specialIn T.K (.ref (T.ca c)) (Str.ofString "__getattribute__") = some (some (.builtin "type.__getattribute__"))
  ex : ∃ f mc, PySem.W.readsIn T.K (T.ca c) mc = true /\ PySem.W.findCls T.K (.ref (T.ca c)) mc m = some (.val (.ref f)) /\ PySem.W.keepIn T.K (.ref f) = true /\ OkA T P w mg base k f ps fn
theorem fe_ucall {pl : Sem Bool} {k c : Nat} {ps : List Str} {fn : List D -> M D} {x m : Str} {p pos apos : Pos} {e : Expr} {es : List Expr} {fs : Ev -> M (List D)} (h : OkU T X.prog X.w X.mg X.base k x m c ps fn) (hK : T.K = X.K) (hr : Room k X.A) (hg : Gl X x) (ha : FA T X (e :: es) fs)
    (hdb : (x == ("__debug__" : Str)) = false := by decide) (hst : starEach (e :: es) X.env = (false, eval e X.env) :: starEach es X.env := by rfl) (hpl : (backTo pos (starEach es X.env)).any (·.1) = false := by rfl)
    (ht : eval (.Call (.Attribute (.Name x p) m apos) (e :: es) [] pos) X.env = (do
      let ov <- eval (.Name x p) X.env
      standAt apos.atName
      let (f, first) <- holding [ov] (getMethod ov m pl)
      callWith pos f first (backTo pos (starEach (e :: es) X.env)) (backToKw pos (keywordEach [] X.env))) := by rfl) :
    FE T X (.Call (.Attribute (.Name x p) m apos) (e :: es) [] pos) (eFn ps.length fn [] fs) := by
  intro pins s st H Q I hq
  obtain ⟨μ, ρ, σ, hE, hr', hp⟩ := hq
  obtain ⟨hm, hsp, f, mc, h1, h2, h3, fd, hb, hF⟩ := h
  rw [hK] at hsp h1 h2 h3 hF
  refine PySem.W.methodCall_KW (pl := pl) (ld_glob I hg hm ?_ hdb) ht
  refine PySem.W.method_cls I.kIn hsp (PySem.W.cls_value I.kIn h1 h2 rfl ?_)
  have I1 := I.tok (s.toks + 1)
  refine PySem.W.callWith_K (first := []) (h₀ := X.base) I.ok.mod.kin h3 (thn (ha pos pins _ st H (fun vs H1 => spF T ps.length fn (vs ++ []) H1 Q (XE X st)) I1 ⟨μ, ρ, σ, hE, hr', hp.bind fun ds σ1 μ1 vs H1 _ e1 r1 p1 q1 => ?_⟩) fun us s2 ⟨vs, H2, I2, r, q2⟩ => ⟨I2.kIn, ?_⟩) hst hpl
  · unfold fnK at q1
    by_cases hl : (ds ++ []).length = ps.length
    · rw [if_pos hl] at q1
      exact ⟨μ1, σ1, ds ++ [], p1.append zaf.nil, hl, r1, q1⟩
    · rw [if_neg hl] at q1; exact q1.elim
  · exact run_fnX hF hr (.all hb) .nil I2 r q2
end
structure HasM (K : PySem.W.Frag) (C : Addr) (x qual : Str) (st : Stmt) (ps : List Str) (f : Addr) : Prop where
  ex : ∃ fd, Fun K x qual st f fd /\ ∀ us : List Value, us.length = ps.length -> bindArgs fd ⟨us, []⟩ = pure (ps.zip us)
section
variable {P : Program} {w : World} {K : PySem.W.Frag} {mg : Str -> Option Value} {base : Heap} {ca : Nat -> Addr}
theorem zcg {k : Nat} {C f : Addr} {x qual : Str} {st : Stmt} {ps N : List Str} {g : Ev -> M Fl} (h : HasM K C x qual st ps f) (S : FnScope N ps (zao st))
    (hb : ∀ (cdv : Value) (A : Around) (outer : List Env) (s : Shared) (H : Hp) (E : XK), Room k (A.deeper (envOfC qual (zao st) s.heap.objs.size f cdv)) -> FSs ⟨K, ca⟩ (cxOf (CXE P w) P w K mg base N qual (zao st) f cdv A outer s H E) (zan st) g) :
    OkA ⟨K, ca⟩ P w mg base (k + 1) f ps (run N.length g) := by
  obtain ⟨fd, F, hbd⟩ := h.ex
  obtain ⟨oc, od, kV, doc, pm, an, cdv, ct, osl, rfl, lk, hcd⟩ := F.ex
  exact ⟨_, hbd, fok lk hcd S (hb cdv)⟩
theorem OkA.frz {T : Tb} {k : Nat} {f : Addr} {ps : List Str} {fn : List D -> M D} (h : OkA T P w mg base k f ps fn) : OkA T P w mg base k f ps (fun ds => L4.frz (fn ds)) := by
  obtain ⟨fd, h3, h4⟩ := h
  exact ⟨fd, h3, fok_frz h4⟩
theorem OkA.hide {T : Tb} {k : Nat} {f : Addr} {ps : List Str} {fn : List D -> M D} (h : OkA T P w mg base k f ps fn) : OkA T P w mg base k f ps (L4.hide fn) := by rw [zbt]; exact h
end
def zcb (s : Stmt) (j : Nat) : Stmt := match s with
  | .ClassDef _ _ _ b _ _ _ _ _ _ _ => b.getD j (.Pass ⟨0, 0, 0, 0⟩)
  | s => s
theorem mkM {K : PySem.W.Frag} {C f : Addr} {x qual : Str} {st : Stmt} {ps : List Str} {oc : Value} {od an : Option Addr} {osl : Array (Option Value)} {kV doc pm cdv ct : Value}
    (hb : ∀ (kV doc pm : Value) (an : Option Addr) (cdv ct : Value) (us : List Value), us.length = ps.length -> bindArgs (PySem.W.fnOf x qual (zam st) (zan st) (zao st) .none kV doc pm an cdv ct) ⟨us, []⟩ = pure (ps.zip us))
    (l : K.lookup f = some ⟨oc, od, .func (PySem.W.fnOf x qual (zam st) (zan st) (zao st) .none kV doc pm an cdv ct), osl⟩)
    (c : PySem.W.codeIn K cdv qual = true) (k : PySem.W.keepIn K (.ref f) = true) : HasM K C x qual st ps f := ⟨⟨_, fun_mk l c k, hb kV doc pm an cdv ct⟩⟩
section
variable {T : Tb} {P : Program} {w : World} {mg : Str -> Option Value} {base : Heap}
def MtOk (T : Tb) (P : Program) (w : World) (mg : Str -> Option Value) (base : Heap) (k : Nat) (m : Str) (ps : List Str) (tb : Mt) : Prop := ∀ q ∈ tb, OkM T P w mg base k m q.1 ps q.2
theorem zca {k : Nat} {m : Str} {ps : List Str} : MtOk T P w mg base k m ps [] := fun q h => nomatch h
theorem zbz {j k : Nat} {m : Str} {ps : List Str} {tb : Mt} {c : Nat} {f : Addr} {fn : List D -> M D} (h1 : Cls T.K (T.ca c)) (h2 : Meth T.K (T.ca c) m f) (h3 : OkA T P w mg base j f ps fn) (hj : j <= k) (h : MtOk T P w mg base k m ps tb) : MtOk T P w mg base k m ps ((c, fn) :: tb) := fun q hq => by
  rcases List.mem_cons.mp hq with rfl | hq
  · obtain ⟨fd, a, b⟩ := h3
    exact ⟨h1, f, h2, fd, a, b.mono hj⟩
  · exact h q hq
end
section
variable {T : Tb} {X : Cx}
end
end L4
namespace L4
open PySem L2
theorem nr {α : Type} {a b : α} (h : a = b) : a = b := h
section
variable {α β : Type} {ρ : Ev} {σ : Sto}
@[simp] theorem zak (a : α) (σ : Sto) (k : α -> M β) : (Out.ok a σ).bind k = k a σ := nr rfl
@[simp] theorem bind_ex (x : Xn) (σ : Sto) (k : α -> M β) : (Out.ex x σ : Out α).bind k = .ex x σ := nr rfl
@[simp] theorem bind_bad (k : α -> M β) : (Out.bad : Out α).bind k = .bad := nr rfl
@[simp] theorem ret_ap (a : α) (σ : Sto) : ret a σ = .ok a σ := nr rfl
@[simp] theorem bad_ap (σ : Sto) : (bad : M α) σ = .bad := nr rfl
@[simp] theorem bnd_ap (m : M α) (k : α -> M β) (σ : Sto) : bnd m k σ = (m σ).bind k := nr rfl
@[simp] theorem eC_ap (d : D) : eC d ρ σ = .ok d σ := nr rfl
@[simp] theorem eVar_0 (d : D) (r : Ev) : zar 0 (some d :: r) σ = .ok d σ := nr rfl
@[simp] theorem eVar_S (i : Nat) (o : Option D) (r : Ev) : zar (i + 1) (o :: r) σ = zar i r σ := nr rfl
@[simp] theorem eBin_ap (o : D -> D -> M D) (a b : Ev -> M D) : zap o a b ρ σ = (a ρ σ).bind (binK o (b ρ)) := nr rfl
@[simp] theorem binK_ap (o : D -> D -> M D) (m : M D) (x : D) : binK o m x σ = (m σ).bind (o x) := nr rfl
@[simp] theorem eUn_ap (o : D -> M D) (a : Ev -> M D) : eUn o a ρ σ = (a ρ σ).bind o := nr rfl
@[simp] theorem tst_ap (b : Bool) : tst (.bl b) σ = .ok b σ := nr rfl
@[simp] theorem ifK_t (p q : M α) : ifK p q true σ = p σ := nr rfl
@[simp] theorem ifK_f (p q : M α) : ifK p q false σ = q σ := nr rfl
@[simp] theorem notK_ap (c : Bool) : notK c σ = .ok (!c) σ := nr rfl
@[simp] theorem testK_ap (k : Bool -> M α) (b : Bool) : testK k (.bl b) σ = k b σ := nr rfl
@[simp] theorem nboxK_ap (c : Bool) : nboxK c σ = .ok (.bl (!c)) σ := nr rfl
@[simp] theorem eT_ap (f : Ev -> M D) : eT f ρ σ = (f ρ σ).bind tst := nr rfl
@[simp] theorem bAnd_ap (a b : Ev -> M Bool) : bAnd a b ρ σ = (a ρ σ).bind (ifK (b ρ) (ret false)) := nr rfl
@[simp] theorem bOr_ap (a b : Ev -> M Bool) : bOr a b ρ σ = (a ρ σ).bind (ifK (ret true) (b ρ)) := nr rfl
@[simp] theorem bNot_ap (a : Ev -> M Bool) : bNot a ρ σ = (a ρ σ).bind notK := nr rfl
@[simp] theorem eAnd_ap (a b : Ev -> M D) : eAnd a b ρ σ = (a ρ σ).bind (testK (ifK (b ρ) (ret (.bl false)))) := nr rfl
@[simp] theorem eOr_ap (a b : Ev -> M D) : eOr a b ρ σ = (a ρ σ).bind (testK (ifK (ret (.bl true)) (b ρ))) := nr rfl
@[simp] theorem eNot_ap (a : Ev -> M D) : eNot a ρ σ = (a ρ σ).bind (testK nboxK) := nr rfl
@[simp] theorem eIf_ap (t : Ev -> M Bool) (a b : Ev -> M D) : eIf t a b ρ σ = (t ρ σ).bind (ifK (a ρ) (b ρ)) := nr rfl
@[simp] theorem aNil_ap : zai ρ σ = .ok [] σ := nr rfl
@[simp] theorem aCons_ap (e : Ev -> M D) (r : Ev -> M (List D)) : zah e r ρ σ = (e ρ σ).bind (aConsK (r ρ)) := nr rfl
@[simp] theorem aConsK_ap (m : M (List D)) (x : D) : aConsK m x σ = (m σ).bind (consK x) := nr rfl
@[simp] theorem consK_ap (x : D) (xs : List D) : consK x xs σ = .ok (x :: xs) σ := nr rfl
@[simp] theorem eTup_ap (a : Ev -> M (List D)) : eTup a ρ σ = (a ρ σ).bind tupK := nr rfl
@[simp] theorem tupK_0 : tupK [] σ = .ok (.tup []) σ := nr rfl
@[simp] theorem tupK_1 (a : D) : tupK [a] σ = .ok (.tup [a]) σ := nr rfl
@[simp] theorem tupK_2 (a b : D) : tupK [a, b] σ = .ok (.tup [a, b]) σ := nr rfl
@[simp] theorem tupK_3 (a b c : D) : tupK [a, b, c] σ = .ok (.tup [a, b, c]) σ := nr rfl
@[simp] theorem tupK_4 (a b c d : D) : tupK [a, b, c, d] σ = .ok (.tup [a, b, c, d]) σ := nr rfl
@[simp] theorem tupK_5 (a b c d e : D) : tupK [a, b, c, d, e] σ = .ok (.tup [a, b, c, d, e]) σ := nr rfl
@[simp] theorem eLv_ap (a : Ev -> M (List D)) : eLv a ρ σ = (a ρ σ).bind lvK := nr rfl
@[simp] theorem eLst_ap (a : Ev -> M (List D)) : eLst a ρ σ = (a ρ σ).bind lstK := nr rfl
@[simp] theorem lstK_0 : lstK [] σ = .ok (.ref σ.length) (σ ++ [.lst []]) := nr rfl
@[simp] theorem oI_ap (g : Int -> Int -> Int) (i j : Int) : oI g (.int i) (.int j) σ = .ok (.int (g i j)) σ := nr rfl
@[simp] theorem oB_ap (g : Int -> Int -> Bool) (i j : Int) : oB g (.int i) (.int j) σ = .ok (.bl (g i j)) σ := nr rfl
theorem oIC_ap {C : Int -> Int -> Bool} {g : Int -> Int -> Int} {i j : Int} (h : C i j = true) : oIC C g (.int i) (.int j) σ = .ok (.int (g i j)) σ := by
  show (if C i j = true then ret _ else bad) σ = _; rw [if_pos h]; rfl
@[simp] theorem oDiv_ap (i j : Int) (h : 0 < j) (h2 : j < 1073741824) : oDiv (.int i) (.int j) σ = .ok (.int (i / j)) σ := oIC_ap (by simp [cDiv, h, h2])
@[simp] theorem oMod_ap (i j : Int) (h : 0 < j) : oMod (.int i) (.int j) σ = .ok (.int (i % j)) σ := oIC_ap (by simp [cMod, h])
@[simp] theorem oShr_ap (i j : Int) (h : 0 <= j) : oShr (.int i) (.int j) σ = .ok (.int (i / 2 ^ j.toNat)) σ := oIC_ap (by simp [cShr, h])
theorem oPow_ap {i j : Int} (h : cPow i j = true) : oPow (.int i) (.int j) σ = .ok (.int (i ^ j.toNat)) σ := oIC_ap h
@[simp] theorem p12 : oPow (.int 10) (.int 12) σ = .ok (.int 1000000000000) σ := oPow_ap (by simp [cPow])
@[simp] theorem p6 : oPow (.int 10) (.int 6) σ = .ok (.int 1000000) σ := oPow_ap (by simp [cPow])
@[simp] theorem p4 : oPow (.int 10) (.int 4) σ = .ok (.int 10000) σ := oPow_ap (by simp [cPow])
@[simp] theorem p40 : oPow (.int 10) (.int 40) σ = .ok (.int (10 ^ 40)) σ := oPow_ap (by simp [cPow])
@[simp] theorem oNeg_ap (i : Int) : oNeg (.int i) σ = .ok (.int (-i)) σ := nr rfl
@[simp] theorem oAdd_int (i j : Int) : oAdd (.int i) (.int j) σ = .ok (.int (i + j)) σ := nr rfl
theorem oAdd_tup {xs ys : List D} (h : xs.length + ys.length <= cap) : oAdd (.tup xs) (.tup ys) σ = .ok (.tup (xs ++ ys)) σ := by show (if _ then _ else _ : M D) σ = _; rw [if_pos h]; rfl
theorem oAdd_lst {xs ys : List D} (h : xs.length + ys.length <= cap) : oAdd (.lst xs) (.lst ys) σ = .ok (.lst (xs ++ ys)) σ := by
  show oAddL (.lst xs) (.lst ys) σ = _; unfold oAddL; simp only [lsOf]; rw [if_pos h]
@[simp] theorem oIsN_non (σ : Sto) : oIsN .non .non σ = .ok (.bl true) σ := nr rfl
@[simp] theorem oIsN_bl (b : Bool) : oIsN (.bl b) .non σ = .ok (.bl false) σ := nr rfl
@[simp] theorem oIsN_int (b : Int) : oIsN (.int b) .non σ = .ok (.bl false) σ := nr rfl
@[simp] theorem oIsN_tup (b : List D) : oIsN (.tup b) .non σ = .ok (.bl false) σ := nr rfl
@[simp] theorem oIsN_lst (b : List D) : oIsN (.lst b) .non σ = .ok (.bl false) σ := nr rfl
@[simp] theorem oIsN_str (b : Str) : oIsN (.str b) .non σ = .ok (.bl false) σ := nr rfl
@[simp] theorem oNotN_non (σ : Sto) : oNotN .non .non σ = .ok (.bl false) σ := nr rfl
@[simp] theorem oNotN_int (b : Int) : oNotN (.int b) .non σ = .ok (.bl true) σ := nr rfl
@[simp] theorem oNotN_tup (b : List D) : oNotN (.tup b) .non σ = .ok (.bl true) σ := nr rfl
theorem oEq_of {x y : D} {b : Bool} (h : eqD σ 8 x y = some b) : oEq x y σ = .ok (.bl b) σ := by unfold oEq; rw [h]
theorem oNe_of {x y : D} {b : Bool} (h : eqD σ 8 x y = some b) : oNe x y σ = .ok (.bl (!b)) σ := by unfold oNe; rw [h]
@[simp] theorem oEq_int (i j : Int) : oEq (.int i) (.int j) σ = .ok (.bl (i == j)) σ := oEq_of (by simp [eqD, kd, eqK, eqV])
@[simp] theorem oNe_int (i j : Int) : oNe (.int i) (.int j) σ = .ok (.bl (!(i == j))) σ := oNe_of (by simp [eqD, kd, eqK, eqV])
@[simp] theorem oEq_str (i j : Str) : oEq (.str i) (.str j) σ = .ok (.bl (i == j)) σ := oEq_of (by simp [eqD, kd, eqK, eqV])
@[simp] theorem oNe_bl (i j : Bool) : oNe (.bl i) (.bl j) σ = .ok (.bl (!(i == j))) σ := oNe_of (by simp [eqD, kd, eqK, eqV])
@[simp] theorem oEq_bl (i j : Bool) : oEq (.bl i) (.bl j) σ = .ok (.bl (i == j)) σ := oEq_of (by simp [eqD, kd, eqK, eqV])
theorem oIx_tup {xs : List D} {k : Int} {d : D} (h : atI xs k = some d) : oIx (.tup xs) (.int k) σ = .ok d σ := by simp [oIx, seqOf, h]
theorem zcf {xs : List D} {k : Int} {d : D} (h : atI xs k = some d) : oIx (.lst xs) (.int k) σ = .ok d σ := by simp [oIx, seqOf, h]
@[simp] theorem ix_t0 (a : D) (r : List D) : oIx (.tup (a :: r)) (.int 0) σ = .ok a σ := oIx_tup (show atI _ ((0 : Nat) : Int) = _ from zaj rfl)
@[simp] theorem ix_t1 (a b : D) (r : List D) : oIx (.tup (a :: b :: r)) (.int 1) σ = .ok b σ := oIx_tup (show atI _ ((1 : Nat) : Int) = _ from zaj rfl)
@[simp] theorem ix_t2 (a b c : D) (r : List D) : oIx (.tup (a :: b :: c :: r)) (.int 2) σ = .ok c σ := oIx_tup (show atI _ ((2 : Nat) : Int) = _ from zaj rfl)
@[simp] theorem ix_t3 (a b c d : D) (r : List D) : oIx (.tup (a :: b :: c :: d :: r)) (.int 3) σ = .ok d σ := oIx_tup (show atI _ ((3 : Nat) : Int) = _ from zaj rfl)
@[simp] theorem oLen_tup (xs : List D) : oLen [.tup xs] σ = .ok (.int xs.length) σ := nr rfl
@[simp] theorem oLen_lst (xs : List D) : oLen [.lst xs] σ = .ok (.int xs.length) σ := nr rfl
@[simp] theorem oLen_scr (xs : List Int) : oLen [.scr xs] σ = .ok (.int xs.length) σ := by simp [oLen, seqOf]
@[simp] theorem oTuple_lst (xs : List D) : oTuple [.lst xs] σ = .ok (.tup xs) σ := nr rfl
@[simp] theorem oTuple_tup (xs : List D) : oTuple [.tup xs] σ = .ok (.tup xs) σ := nr rfl
@[simp] theorem eCall_ap (o : List D -> M D) (fs : Ev -> M (List D)) : zaq o fs ρ σ = (fs ρ σ).bind o := nr rfl
@[simp] theorem eFn_ap (n : Nat) (f : List D -> M D) (dds : List D) (fs : Ev -> M (List D)) : eFn n f dds fs ρ σ = (fs ρ σ).bind (fnK n f dds) := nr rfl
@[simp] theorem fnK_1 (f : List D -> M D) (a : D) : fnK 1 f [] [a] σ = f [a] σ := by unfold fnK; rw [if_pos (by simp)]; simp
@[simp] theorem fnK_2 (f : List D -> M D) (a b : D) : fnK 2 f [] [a, b] σ = f [a, b] σ := by unfold fnK; rw [if_pos (by simp)]; simp
@[simp] theorem fnK_3 (f : List D -> M D) (a b c : D) : fnK 3 f [] [a, b, c] σ = f [a, b, c] σ := by unfold fnK; rw [if_pos (by simp)]; simp
@[simp] theorem fnK_3d (f : List D -> M D) (a b c : D) : fnK 3 f [c] [a, b] σ = f [a, b, c] σ := by unfold fnK; rw [if_pos (by simp)]; simp
@[simp] theorem fnK_4 (f : List D -> M D) (a b c d : D) : fnK 4 f [] [a, b, c, d] σ = f [a, b, c, d] σ := by unfold fnK; rw [if_pos (by simp)]; simp
@[simp] theorem fnK_5 (f : List D -> M D) (a b c d e : D) : fnK 5 f [] [a, b, c, d, e] σ = f [a, b, c, d, e] σ := by unfold fnK; rw [if_pos (by simp)]; simp
@[simp] theorem fnK_7 (f : List D -> M D) (a b c d e g h : D) : fnK 7 f [] [a, b, c, d, e, g, h] σ = f [a, b, c, d, e, g, h] σ := by unfold fnK; rw [if_pos (by simp)]; simp
@[simp] theorem fnK_6 (f : List D -> M D) (a b c d e g : D) : fnK 6 f [] [a, b, c, d, e, g] σ = f [a, b, c, d, e, g] σ := by unfold fnK; rw [if_pos (by simp)]; simp
@[simp] theorem sNil_ap : sNil ρ σ = .ok (.nx ρ) σ := nr rfl
@[simp] theorem sSeq_ap (g h : Ev -> M Fl) : zct g h ρ σ = (g ρ σ).bind (seqK h) := nr rfl
@[simp] theorem seqK_nx (h : Ev -> M Fl) (ρ : Ev) : seqK h (.nx ρ) σ = h ρ σ := nr rfl
@[simp] theorem seqK_rt (h : Ev -> M Fl) (d : D) : seqK h (.rt d) σ = .ok (.rt d) σ := nr rfl
@[simp] theorem seqK_xc (h : Ev -> M Fl) (ρ : Ev) (x : Xn) : seqK h (.xc ρ x) σ = .ok (.xc ρ x) σ := nr rfl
@[simp] theorem seqK_bk (h : Ev -> M Fl) (ρ : Ev) : seqK h (.bk ρ) σ = .ok (.bk ρ) σ := nr rfl
@[simp] theorem seqK_ct (h : Ev -> M Fl) (ρ : Ev) : seqK h (.ct ρ) σ = .ok (.ct ρ) σ := nr rfl
def xsO (ρ : Ev) (k : α -> M Fl) : Out α -> Out Fl
  | .ok a σ' => k a σ'
  | .ex x σ' => .ok (.xc ρ x) σ'
  | .bad => .bad
@[simp] theorem xs_ap (ρ : Ev) (m : M α) (k : α -> M Fl) : xs ρ m k σ = xsO ρ k (m σ) := by unfold xs xsO; cases m σ <;> rfl
@[simp] theorem xsO_ok (ρ : Ev) (k : α -> M Fl) (a : α) : xsO ρ k (.ok a σ) = k a σ := nr rfl
@[simp] theorem xsO_ex (ρ : Ev) (k : α -> M Fl) (x : Xn) : xsO ρ k (.ex x σ) = .ok (.xc ρ x) σ := nr rfl
@[simp] theorem xsO_bad (ρ : Ev) (k : α -> M Fl) : xsO ρ k (.bad : Out α) = .bad := nr rfl
@[simp] theorem sRet_ap (f : Ev -> M D) : zcs f ρ σ = xsO ρ retK (f ρ σ) := xs_ap ..
@[simp] theorem retK_ap (d : D) : retK d σ = .ok (.rt d) σ := nr rfl
@[simp] theorem sExp_ap (f : Ev -> M D) : sExp f ρ σ = xsO ρ (expK ρ) (f ρ σ) := xs_ap ..
@[simp] theorem expK_ap (d : D) : expK ρ d σ = .ok (.nx ρ) σ := nr rfl
@[simp] theorem sSet_ap (i : Nat) (f : Ev -> M D) : sSet i f ρ σ = xsO ρ (setK i ρ) (f ρ σ) := xs_ap ..
@[simp] theorem setK_ap (i : Nat) (d : D) : setK i ρ d σ = .ok (.nx (ρ.set i (some d))) σ := nr rfl
@[simp] theorem sIf_ap (t : Ev -> M Bool) (a b : Ev -> M Fl) : sIf t a b ρ σ = xsO ρ (ifK (a ρ) (b ρ)) (t ρ σ) := xs_ap ..
@[simp] theorem sAsg_ap (f : Ev -> M D) (tg : D -> Ev -> Option Ev) : sAsg f tg ρ σ = xsO ρ (asgK tg ρ) (f ρ σ) := xs_ap ..
@[simp] theorem asgK_1 (i j k : Nat) (a b c : D) : asgK (tgT 3 (tgCons (tgN i) (tgCons (tgN j) (tgCons (tgN k) tgNil)))) ρ (.tup [a, b, c]) σ = .ok (.nx (((ρ.set i (some a)).set j (some b)).set k (some c))) σ := nr rfl
@[simp] theorem asgK_2 (i j : Nat) (a b : D) : asgK (tgT 2 (tgCons (tgN i) (tgCons (tgN j) tgNil))) ρ (.tup [a, b]) σ = .ok (.nx ((ρ.set i (some a)).set j (some b))) σ := nr rfl
@[simp] theorem sRaise_ap (c : Nat) (fs : Ev -> M (List D)) : sRaise c fs ρ σ = xsO ρ (raiseK c ρ) (fs ρ σ) := xs_ap ..
@[simp] theorem raiseK_1 (c : Nat) (d : D) : raiseK c ρ [d] σ = .ok (.xc ρ ⟨c⟩) σ := nr rfl
@[simp] theorem sTry_ap (g : Ev -> M Fl) (hs : List Hd) : sTry g hs ρ σ = (g ρ σ).bind (tryK hs) := nr rfl
@[simp] theorem tryK_nx (hs : List Hd) : tryK hs (.nx ρ) σ = .ok (.nx ρ) σ := nr rfl
@[simp] theorem tryK_rt (hs : List Hd) (d : D) : tryK hs (.rt d) σ = .ok (.rt d) σ := nr rfl
@[simp] theorem tryK_xc (hs : List Hd) (x : Xn) : tryK hs (.xc ρ x) σ = handle ρ x hs σ := nr rfl
theorem handle_t {h : Hd} {r : List Hd} {x : Xn} (e : h.t x.cls = some true) : handle ρ x (h :: r) σ = hit h ρ x σ := by unfold handle; rw [e]
@[simp] theorem hit_ap (t : Nat -> Option Bool) (g : Ev -> M Fl) (x : Xn) : hit ⟨t, none, g⟩ ρ x σ = (g ρ σ).bind noF := nr rfl
@[simp] theorem noF_nx : noF (.nx ρ) σ = .ok (.nx ρ) σ := nr rfl
@[simp] theorem noF_rt (d : D) : noF (.rt d) σ = .ok (.rt d) σ := nr rfl
@[simp] theorem run_ap (n : Nat) (g : Ev -> M Fl) (ds : List D) : run n g ds σ = runO (g (ds.map some ++ List.replicate (n - ds.length) none) σ) := nr rfl
@[simp] theorem runO_rt (d : D) : runO (.ok (.rt d) σ) = .ok d σ := nr rfl
@[simp] theorem runO_nx : runO (.ok (.nx ρ) σ) = .ok .non σ := nr rfl
@[simp] theorem runO_xc (x : Xn) : runO (.ok (.xc ρ x) σ) = .ex x σ := nr rfl
@[simp] theorem frz_ap (f : M D) : frz f σ = frzO σ (f σ) := nr rfl
@[simp] theorem eFrz_ap (f : Ev -> M D) : eFrz f ρ σ = frzO σ (f ρ σ) := nr rfl
theorem fz_cl {k m : Nat} {σ : Sto} {d : D} (h : cl d = true) : fz k σ m d = some d := by cases m <;> (unfold fz; rw [if_pos h])
theorem frzO_cl {σ' : Sto} {d : D} (h : cl d = true) (ht : σ'.take σ.length = σ) : frzO σ (.ok d σ') = .ok d σ := by
  unfold frzO; dsimp only; rw [if_pos ht, fz_cl h]
@[simp] theorem frzO_ex : frzO σ (.ex x σ) = .ex x σ := by unfold frzO; dsimp only; rw [if_pos List.take_length]
@[simp] theorem frzO_same {d : D} (h : cl d = true) : frzO σ (.ok d σ) = .ok d σ := frzO_cl h List.take_length
theorem frzO_lst {j j' : Sto} {xs : List D} (h : clL xs = true) : frzO σ (.ok (.ref σ.length) (σ ++ [.lst xs] ++ j)) = .ok (.lst xs) σ := by
  unfold frzO
  dsimp only
  rw [if_pos (by simp)]
  have e : fz σ.length (σ ++ [.lst xs] ++ j) 6 (.ref σ.length) = some (.lst xs) := by
    unfold fz
    rw [if_neg (by simp [cl])]
    dsimp only
    rw [if_neg (Nat.lt_irrefl _)]
    have : (σ ++ [Ob.lst xs] ++ j)[σ.length]? = some (.lst xs) := by simp
    rw [this]
    dsimp only
    have hl : ∀ (ys : List D) (m : Nat), clL ys = true -> fzL (fz σ.length (σ ++ [.lst xs] ++ j) m) ys = some ys := by
      intro ys m
      induction ys with
      | nil => intro _; rfl
      | cons y ys ih =>
        intro hc
        have hc' : cl y = true /\ clL ys = true := by simpa [clL, Bool.and_eq_true] using hc
        unfold fzL
        rw [fz_cl hc'.1, ih hc'.2]
    rw [hl xs 5 h]
    rfl
  rw [e]
@[simp] theorem cl_int (i : Int) : cl (.int i) = true := by simp [cl]
@[simp] theorem cl_bl (i : Bool) : cl (.bl i) = true := by simp [cl]
@[simp] theorem cl_str (i : Str) : cl (.str i) = true := by simp [cl]
@[simp] theorem cl_non : cl .non = true := by simp [cl]
@[simp] theorem cl_tup (xs : List D) : cl (.tup xs) = clL xs := by simp [cl]
@[simp] theorem cl_lst (xs : List D) : cl (.lst xs) = clL xs := by simp [cl]
@[simp] theorem cl_ref (n : Nat) : cl (.ref n) = false := by simp [cl]
@[simp] theorem clL_nil : clL [] = true := by simp [clL]
@[simp] theorem clL_cons (d : D) (ds : List D) : clL (d :: ds) = (cl d && clL ds) := by simp [clL]
theorem clL_all : ∀ {ds : List D}, (∀ d ∈ ds, cl d = true) -> clL ds = true
  | [], _ => by simp
  | d :: ds, h => by rw [clL_cons, h d List.mem_cons_self, clL_all fun x hx => h x (List.mem_cons_of_mem _ hx)]; rfl
theorem clL_map {γ : Type} {f : γ -> D} {l : List γ} (h : ∀ x, cl (f x) = true) : clL (l.map f) = true := clL_all fun d hd => by obtain ⟨x, _, rfl⟩ := List.mem_map.mp hd; exact h x
@[simp] theorem clL_ints (l : List Int) : clL (l.map D.int) = true := clL_map cl_int
@[simp] theorem clL_app (xs ys : List D) : clL (xs ++ ys) = (clL xs && clL ys) := by
  induction xs with
  | nil => simp
  | cons x xs ih => simp [ih, Bool.and_assoc]
theorem oMul_ap {i j : Int} (h : cMul i j = true) : oMul (.int i) (.int j) σ = .ok (.int (i * j)) σ := oIC_ap h
theorem cMul_L {i j : Int} (h : -(2 ^ 64) < i) (h2 : i < 2 ^ 64) : cMul i j = true := by simp only [cMul, zbt, Bool.or_eq_true, Bool.and_eq_true, decide_eq_true_eq]; exact .inl ⟨h, h2⟩
theorem cMul_R {i j : Int} (h : -(2 ^ 64) < j) (h2 : j < 2 ^ 64) : cMul i j = true := by simp only [cMul, zbt, Bool.or_eq_true, Bool.and_eq_true, decide_eq_true_eq]; exact .inr ⟨h, h2⟩
theorem atI_D {xs : List D} {k : Int} (h0 : 0 <= k) (h : k < xs.length) : atI xs k = some (xs.getD k.toNat .non) := by
  obtain ⟨n, rfl⟩ := Int.eq_ofNat_of_zero_le h0
  have hn : n < xs.length := by omega
  refine zaj ?_
  show xs[n]? = some (xs.getD n .non)
  rw [List.getD_eq_getElem?_getD, List.getElem?_eq_getElem hn]; rfl
theorem atI_I {is : List Int} {k : Int} (h0 : 0 <= k) (h : k < is.length) : atI (is.map D.int) k = some (.int (is.getD k.toNat 0)) := by
  rw [atI_D h0 (by simpa using h)]
  have hn : k.toNat < is.length := by omega
  simp [hn]
@[simp] theorem ixI2 (n a b : Int) : oIx (.lst [.int a, .int b]) (.int (n % 2)) σ = .ok (.int ([a, b].getD (n % 2).toNat 0)) σ := zcf (atI_I (is := [a, b]) (by omega) (by simp; omega))
@[simp] theorem ixI3 (n a b c : Int) : oIx (.lst [.int a, .int b, .int c]) (.int (n % 3)) σ = .ok (.int ([a, b, c].getD (n % 3).toNat 0)) σ := zcf (atI_I (is := [a, b, c]) (by omega) (by simp; omega))
@[simp] theorem ixI4 (n a b c d : Int) : oIx (.lst [.int a, .int b, .int c, .int d]) (.int (n % 4)) σ = .ok (.int ([a, b, c, d].getD (n % 4).toNat 0)) σ := zcf (atI_I (is := [a, b, c, d]) (by omega) (by simp; omega))
@[simp] theorem ixI5 (n a b c d e : Int) : oIx (.lst [.int a, .int b, .int c, .int d, .int e]) (.int (n % 5)) σ = .ok (.int ([a, b, c, d, e].getD (n % 5).toNat 0)) σ := zcf (atI_I (is := [a, b, c, d, e]) (by omega) (by simp; omega))
@[simp] theorem ixI6 (n a b c d e f : Int) : oIx (.lst [.int a, .int b, .int c, .int d, .int e, .int f]) (.int (n % 6)) σ = .ok (.int ([a, b, c, d, e, f].getD (n % 6).toNat 0)) σ := zcf (atI_I (is := [a, b, c, d, e, f]) (by omega) (by simp; omega))
@[simp] theorem ixI7 (n a b c d e f g : Int) : oIx (.lst [.int a, .int b, .int c, .int d, .int e, .int f, .int g]) (.int (n % 7)) σ = .ok (.int ([a, b, c, d, e, f, g].getD (n % 7).toNat 0)) σ := zcf (atI_I (is := [a, b, c, d, e, f, g]) (by omega) (by simp; omega))
@[simp] theorem ixI8 (n a b c d e f g h : Int) : oIx (.lst [.int a, .int b, .int c, .int d, .int e, .int f, .int g, .int h]) (.int (n % 8)) σ = .ok (.int ([a, b, c, d, e, f, g, h].getD (n % 8).toNat 0)) σ := zcf (atI_I (is := [a, b, c, d, e, f, g, h]) (by omega) (by simp; omega))
@[simp] theorem lvK_1 (a : D) : lvK [a] σ = .ok (.lst [a]) σ := nr rfl
@[simp] theorem lvK_0 : lvK [] σ = .ok (.lst []) σ := nr rfl
@[simp] theorem lvK_2 (a b : D) : lvK [a, b] σ = .ok (.lst [a, b]) σ := nr rfl
@[simp] theorem lvK_3 (a b c : D) : lvK [a, b, c] σ = .ok (.lst [a, b, c]) σ := nr rfl
@[simp] theorem lvK_4 (a b c d : D) : lvK [a, b, c, d] σ = .ok (.lst [a, b, c, d]) σ := nr rfl
@[simp] theorem lvK_5 (a b c d e : D) : lvK [a, b, c, d, e] σ = .ok (.lst [a, b, c, d, e]) σ := nr rfl
@[simp] theorem lvK_6 (a b c d e f : D) : lvK [a, b, c, d, e, f] σ = .ok (.lst [a, b, c, d, e, f]) σ := nr rfl
@[simp] theorem lvK_7 (a b c d e f g : D) : lvK [a, b, c, d, e, f, g] σ = .ok (.lst [a, b, c, d, e, f, g]) σ := nr rfl
@[simp] theorem lvK_8 (a b c d e f g h : D) : lvK [a, b, c, d, e, f, g, h] σ = .ok (.lst [a, b, c, d, e, f, g, h]) σ := nr rfl
@[simp] theorem lvK_9 (a b c d e f g h i : D) : lvK [a, b, c, d, e, f, g, h, i] σ = .ok (.lst [a, b, c, d, e, f, g, h, i]) σ := nr rfl
@[simp] theorem lstK_2 (a b : D) : lstK [a, b] σ = .ok (.ref σ.length) (σ ++ [.lst [a, b]]) := nr rfl
@[simp] theorem lstAt_end (xs : List D) : lstAt (σ ++ [.lst xs]) σ.length = some xs := by simp [lstAt]
@[simp] theorem set_end (a b : Ob) : (σ ++ [a]).set σ.length b = σ ++ [b] := by
  rw [List.set_append_right _ _ (Nat.le_refl _)]; simp
@[simp] theorem eMeth_ap (o : D -> List D -> M D) (f : Ev -> M D) (fs : Ev -> M (List D)) : eMeth o f fs ρ σ = (f ρ σ).bind (methK o (fs ρ)) := nr rfl
theorem methK_ap {o : D -> List D -> M D} {m : M (List D)} {x : D} {xs : List D} (h : lsOf σ x = some xs) : methK o m x σ = (m σ).bind (o x) := by unfold methK; rw [h]; rfl
@[simp] theorem methK_end (o : D -> List D -> M D) (m : M (List D)) (xs : List D) : methK o m (.ref σ.length) (σ ++ [.lst xs]) = (m (σ ++ [.lst xs])).bind (o (.ref σ.length)) := methK_ap (xs := xs) (by simp [lsOf])
@[simp] theorem methK_lst (o : D -> List D -> M D) (m : M (List D)) (xs : List D) : methK o m (.lst xs) σ = (m σ).bind (o (.lst xs)) := methK_ap rfl
theorem append_end {xs : List D} {d : D} (h : xs.length < 1000) : oAppend (.ref σ.length) [d] (σ ++ [.lst xs]) = .ok .non (σ ++ [.lst (xs ++ [d])]) := by
  unfold oAppend; simp only [lstAt_end]; rw [if_pos (show xs.length < cap from h), set_end]
theorem oIn_ints {neg : Bool} {w : Int} {x : D} {ws : List Int} (h : seqOf σ x = some (ws.map D.int)) : oIn neg (.int w) x σ = .ok (.bl (if neg then !(ws.any (· == w)) else ws.any (· == w))) σ := by
  have h1 : ∀ l : List Int, (l.map D.int).all isF = true := fun l => by simp [isF, sc]
  have h2 : ∀ l : List Int, ((l.map D.int).any fun z => eqF z (.int w)) = l.any (· == w) := fun l => by simp [eqF, sc, eqV, List.any_map, Function.comp_def]
  unfold oIn; rw [h]; simp only [h1, h2, show isF (.int w) = true from rfl, Bool.and_self, if_true]
@[simp] theorem seqOf_end (xs : List D) : seqOf (σ ++ [.lst xs]) (.ref σ.length) = some xs := lstAt_end xs
@[simp] theorem seqOf_lst (xs : List D) : seqOf σ (.lst xs) = some xs := nr rfl
@[simp] theorem seqOf_tup (xs : List D) : seqOf σ (.tup xs) = some xs := nr rfl
@[simp] theorem srcS_ap (f : Ev -> M D) : srcS f ρ σ = (f ρ σ).bind seqK2 := nr rfl
@[simp] theorem seqK2_tup (ds : List D) : seqK2 (.tup ds) σ = .ok (.seq ds) σ := nr rfl
@[simp] theorem seqK2_lst (ds : List D) : seqK2 (.lst ds) σ = .ok (.seq ds) σ := nr rfl
@[simp] theorem srcR_ap (f : Ev -> M D) : srcR f ρ σ = (f ρ σ).bind rngK := nr rfl
theorem rngK_ap {j : Int} (h : -(2 ^ 62) <= j) (h2 : j < 2 ^ 62) : rngK (.int j) σ = .ok (.seq (zcr j.toNat)) σ := by
  unfold rngK; dsimp only; rw [if_pos (by simp only [small62, zbt, Bool.and_eq_true, decide_eq_true_eq]; exact ⟨h, h2⟩)]
@[simp] theorem sFor_ap (src : Ev -> M Src) (tg : D -> Ev -> Option Ev) (body : Ev -> M Fl) : sFor src tg body ρ σ = xsO ρ (forK tg body ρ) (src ρ σ) := xs_ap ..
@[simp] theorem forK_seq (tg : D -> Ev -> Option Ev) (body : Ev -> M Fl) (ds : List D) : forK tg body ρ (.seq ds) σ = loop tg body ds ρ σ := nr rfl
@[simp] theorem loop_nil (tg : D -> Ev -> Option Ev) (body : Ev -> M Fl) : loop tg body [] ρ σ = .ok (.nx ρ) σ := nr rfl
theorem loop_cons {tg : D -> Ev -> Option Ev} {body : Ev -> M Fl} {d : D} {ds : List D} {ρ1 : Ev} (h : tg d ρ = some ρ1) : loop tg body (d :: ds) ρ σ = (body ρ1 σ).bind (loopK (loop tg body ds)) := by
  show (match tg d ρ with | none => bad | some ρ1 => bnd (body ρ1) (loopK (loop tg body ds))) σ = _
  rw [h]; rfl
@[simp] theorem loop_tgN (i : Nat) (body : Ev -> M Fl) (d : D) (ds : List D) : loop (tgN i) body (d :: ds) ρ σ = (body (ρ.set i (some d)) σ).bind (loopK (loop (tgN i) body ds)) := loop_cons rfl
@[simp] theorem loopK_nx (k : Ev -> M Fl) : loopK k (.nx ρ) σ = k ρ σ := nr rfl
@[simp] theorem loopK_ct (k : Ev -> M Fl) : loopK k (.ct ρ) σ = k ρ σ := nr rfl
@[simp] theorem loopK_rt (k : Ev -> M Fl) (d : D) : loopK k (.rt d) σ = .ok (.rt d) σ := nr rfl
@[simp] theorem loopK_xc (k : Ev -> M Fl) (x : Xn) : loopK k (.xc ρ x) σ = .ok (.xc ρ x) σ := nr rfl
@[simp] theorem loopK_bk (k : Ev -> M Fl) : loopK k (.bk ρ) σ = .ok (.nx ρ) σ := nr rfl
theorem rangeD_eq (n : Nat) : zcr n = (List.range' 0 n).map fun (k : Nat) => D.int k := by unfold zcr; rw [List.range_eq_range']
theorem nox_ok {m : M α} {a : α} {σ' : Sto} (h : m σ = .ok a σ') : nox m σ = .ok a σ' := by unfold nox; rw [h]
theorem lc_go {fi : Ev -> M Bool} {fe : Ev -> M D} {ds : List D} {rest : Ev} {σ0 : Sto} (y : D -> D) (p : D -> Bool)
    (step : ∀ d ∈ ds, ∀ j, fi (some d :: rest) (σ0 ++ j) = .ok (p d) (σ0 ++ j) /\ (p d = true -> fe (some d :: rest) (σ0 ++ j) = .ok (y d) (σ0 ++ j))) (hl : ds.length <= 1000) :
    ∀ (k i : Nat) (o : Option D) (ys : List D), ds.length < k + i -> i <= ds.length -> ys.length <= i ->
      zby (.seq ds) σ0.length (tgN 0) fi fe k i (o :: rest) (σ0 ++ [.lst ys]) = .ok () (σ0 ++ [.lst (ys ++ ((ds.drop i).filter p).map y)]) := by
  intro k
  induction k with
  | zero => intro i o ys h1 h2; omega
  | succ k ih =>
    intro i o ys h1 h2 hy
    unfold zby
    show (match some ds[i]? with | none => _ | some none => _ | some (some d) => _) = _
    cases e : ds[i]? with
    | none =>
      have hi : ds.length <= i := List.getElem?_eq_none_iff.mp e
      rw [List.drop_eq_nil_of_le hi]; simp
    | some d =>
      obtain ⟨hi, ed⟩ := List.getElem?_eq_some_iff.mp e
      have hd : ds.drop i = d :: ds.drop (i + 1) := by rw [<- ed]; exact List.drop_eq_getElem_cons hi
      obtain ⟨s1, s2⟩ := step d (by rw [<- ed]; exact List.getElem_mem hi) [.lst ys]
      show bnd (nox (fi (some d :: rest))) _ _ = _
      rw [bnd_ap, nox_ok s1, zak]
      dsimp only [List.set]
      by_cases hp : p d = true
      · rw [hp, if_pos rfl, bnd_ap, nox_ok (s2 hp), zak, bnd_ap, append_end (by omega), zak, ih (i + 1) (some d) (ys ++ [y d]) (by omega) (by omega) (by simp; omega), hd, List.filter_cons, if_pos hp]
        simp
      · rw [if_neg hp, ih (i + 1) (some d) ys (by omega) (by omega) (by omega), hd, List.filter_cons, if_neg hp]
theorem lc_ok {src : Ev -> M Src} {ix : List Nat} {fi : Ev -> M Bool} {fe : Ev -> M D} {ds : List D} (y : D -> D) (p : D -> Bool) (hs : src ρ σ = .ok (.seq ds) σ) (hl : ds.length <= 1000)
    (step : ∀ d ∈ ds, ∀ j, fi (some d :: (ix.map fun i => (ρ[i]?).getD none)) (σ ++ j) = .ok (p d) (σ ++ j) /\ (p d = true -> fe (some d :: (ix.map fun i => (ρ[i]?).getD none)) (σ ++ j) = .ok (y d) (σ ++ j))) (hc : ∀ d ∈ ds, p d = true -> cl (y d) = true) :
    eFrz (eLC src ix (tgN 0) fi fe) ρ σ = .ok (.lst ((ds.filter p).map y)) σ := by
  show frzO σ (eLC src ix (tgN 0) fi fe ρ σ) = _
  have e : eLC src ix (tgN 0) fi fe ρ σ = .ok (.ref σ.length) (σ ++ [.lst ((ds.filter p).map y)]) := by
    show bnd (src ρ) (lcK (tgN 0) fi fe (blkEv ix ρ)) σ = _
    rw [bnd_ap, hs, zak]
    show bnd (zby (.seq ds) σ.length (tgN 0) fi fe 1001 0 (none :: (ix.map fun i => (ρ[i]?).getD none))) _ (σ ++ [.lst []]) = _
    rw [bnd_ap, lc_go y p step hl 1001 0 none [] (by omega) (by omega) (by simp), zak]
    simp
  rw [e]
  have := frzO_lst (σ := σ) (j := []) (j' := []) (xs := (ds.filter p).map y) (clL_all fun d hd => by obtain ⟨x, hx, rfl⟩ := List.mem_map.mp hd; obtain ⟨hx1, hx2⟩ := List.mem_filter.mp hx; exact hc x hx1 hx2)
  simpa using this
theorem lc_map {src : Ev -> M Src} {ix : List Nat} {fe : Ev -> M D} {ds : List D} (y : D -> D) (hs : src ρ σ = .ok (.seq ds) σ) (hl : ds.length <= 1000)
    (step : ∀ d ∈ ds, ∀ j, fe (some d :: (ix.map fun i => (ρ[i]?).getD none)) (σ ++ j) = .ok (y d) (σ ++ j)) (hc : ∀ d ∈ ds, cl (y d) = true) :
    eFrz (eLC src ix (tgN 0) bTrue fe) ρ σ = .ok (.lst (ds.map y)) σ := by
  have := lc_ok (p := fun _ => true) y (ix := ix) (fi := bTrue) hs hl (fun d hd j => ⟨rfl, fun _ => step d hd j⟩) (fun d hd _ => hc d hd)
  rw [show List.filter (fun _ => true) ds = ds from List.filter_eq_self.mpr fun _ _ => rfl] at this
  exact this
end
end L4
namespace L4
open PySem L2
section
variable {α β : Type} {ρ : Ev} {σ : Sto}
@[simp] theorem seqOf_scr (ns : List Int) : seqOf σ (.scr ns) = some (ns.map D.int) := nr rfl
theorem oIx_scr {ns : List Int} {k : Int} (h0 : 0 <= k) (h : k < ns.length) : oIx (.scr ns) (.int k) σ = .ok (.int (ns.getD k.toNat 0)) σ := by
  simp only [oIx, seqOf_scr, atI_I h0 h]
@[simp] theorem oIsB_int (c : BT) (i : Int) : oIsB c (.int i) σ = .ok (.bl (match c with | .int => true | _ => false)) σ := nr rfl
@[simp] theorem oIsB_bl (c : BT) (i : Bool) : oIsB c (.bl i) σ = .ok (.bl (match c with | .int => true | .bool => true | _ => false)) σ := nr rfl
@[simp] theorem oIsB_tup (xs : List D) : oIsB .tuple (.tup xs) σ = .ok (.bl true) σ := nr rfl
@[simp] theorem eChain_ap (o o' : D -> D -> M D) (a b c : Ev -> M D) : eChain o o' a b c ρ σ = (a ρ σ).bind (chain1 o o' (b ρ) (c ρ)) := nr rfl
def pl : Nat -> D -> Bool
  | _, .non => true
  | _, .bl _ => true
  | _, .int _ => true
  | _, .str _ => true
  | n + 1, .tup xs => xs.all (pl n)
  | n + 1, .lst xs => xs.all (pl n)
  | _, _ => false
theorem eqL_refl {f : D -> D -> Option Bool} : ∀ {xs : List D}, (∀ x ∈ xs, f x x = some true) -> eqL f xs xs = some true
  | [], _ => rfl
  | x :: xs, h => by unfold eqL; rw [h x List.mem_cons_self, eqL_refl fun y hy => h y (List.mem_cons_of_mem _ hy)]; rfl
theorem eqD_refl : ∀ (n : Nat) (x : D), pl n x = true -> eqD σ n x x = some true
  | 0, x, h => by cases x <;> simp [pl] at h <;> simp [eqD, kd, eqK, eqV]
  | n + 1, x, h => by
    cases x with
    | non => simp [eqD, kd, eqK, eqV]
    | bl b => simp [eqD, kd, eqK, eqV]
    | int b => simp [eqD, kd, eqK, eqV]
    | str b => simp [eqD, kd, eqK, eqV]
    | tup xs =>
      simp only [pl, List.all_eq_true] at h
      unfold eqD; simp only [kd, eqK]
      exact eqL_refl fun y hy => eqD_refl n y (h y hy)
    | lst xs =>
      simp only [pl, List.all_eq_true] at h
      unfold eqD; simp only [kd, eqK]
      exact eqL_refl fun y hy => eqD_refl n y (h y hy)
    | _ => simp [pl] at h
theorem oEq_self {x : D} (h : pl 8 x = true) : oEq x x σ = .ok (.bl true) σ := oEq_of (eqD_refl 8 x h)
@[simp] theorem sSetL_ap (f fo fi : Ev -> M D) : sSetL f fo fi ρ σ = xsO ρ (setL1 ρ fo fi) (f ρ σ) := xs_ap ..
@[simp] theorem chain1_ap (o o' : D -> D -> M D) (b c : M D) (x : D) : chain1 o o' b c x σ = (b σ).bind (chainB o o' c x) := nr rfl
@[simp] theorem chainB_ap (o o' : D -> D -> M D) (c : M D) (x y : D) : chainB o o' c x y σ = (o x y σ).bind (chain2 o' c y) := nr rfl
@[simp] theorem chain2_ap (o' : D -> D -> M D) (c : M D) (y : D) (b : Bool) : chain2 o' c y (.bl b) σ = ifK (bnd c (o' y)) (ret (.bl false)) b σ := nr rfl
@[simp] theorem setL1_ap (fo fi : Ev -> M D) (d : D) : setL1 ρ fo fi d σ = xsO ρ (setL2 ρ fi d) (fo ρ σ) := xs_ap ..
@[simp] theorem setL2_ap (fi : Ev -> M D) (d x : D) : setL2 ρ fi d x σ = xsO ρ (setL3 ρ d x) (fi ρ σ) := xs_ap ..
@[simp] theorem setL3_0 (d a : D) (r : List D) : setL3 ρ d (.ref σ.length) (.int 0) (σ ++ [.lst (a :: r)]) = .ok (.nx ρ) (σ ++ [.lst (d :: r)]) := by
  have : oSetL (.ref σ.length) (.int 0) d (σ ++ [.lst (a :: r)]) = .ok () (σ ++ [.lst (d :: r)]) := by
    simp only [oSetL, lstAt_end]
    rw [show ixN (a :: r).length 0 = some 0 by simp [ixN]]
    simp
  unfold setL3; rw [this]
@[simp] theorem setL3_1 (d a b : D) (r : List D) : setL3 ρ d (.ref σ.length) (.int 1) (σ ++ [.lst (a :: b :: r)]) = .ok (.nx ρ) (σ ++ [.lst (a :: d :: r)]) := by
  have : oSetL (.ref σ.length) (.int 1) d (σ ++ [.lst (a :: b :: r)]) = .ok () (σ ++ [.lst (a :: d :: r)]) := by
    simp only [oSetL, lstAt_end]
    rw [show ixN (a :: b :: r).length 1 = some 1 by simp [ixN]; omega]
    simp
  unfold setL3; rw [this]
theorem oIx_end {xs : List D} {k : Int} {d : D} (h : atI xs k = some d) : oIx (.ref σ.length) (.int k) (σ ++ [.lst xs]) = .ok d (σ ++ [.lst xs]) := by simp [oIx, seqOf_end, h]
@[simp] theorem ix_e0 (a : D) (r : List D) : oIx (.ref σ.length) (.int 0) (σ ++ [.lst (a :: r)]) = .ok a (σ ++ [.lst (a :: r)]) := oIx_end (show atI _ ((0 : Nat) : Int) = _ from zaj rfl)
@[simp] theorem ix_e1 (a b : D) (r : List D) : oIx (.ref σ.length) (.int 1) (σ ++ [.lst (a :: b :: r)]) = .ok b (σ ++ [.lst (a :: b :: r)]) := oIx_end (show atI _ ((1 : Nat) : Int) = _ from zaj rfl)
theorem frzO_end {a : Ob} {d : D} (h : cl d = true) : frzO σ (.ok d (σ ++ [a])) = .ok d σ := frzO_cl h (by simp)
@[simp] theorem blsOf_map {γ : Type} (f : γ -> Bool) (l : List γ) : blsOf (l.map fun x => D.bl (f x)) = some (l.map f) := by
  induction l with
  | nil => rfl
  | cons x l ih => simp [blsOf, ih]
@[simp] theorem intsOf_map (l : List Int) : intsOf (l.map D.int) = some l := by
  induction l with
  | nil => rfl
  | cons x l ih => simp [intsOf, ih]
theorem oAll_map {γ : Type} {f : γ -> Bool} {l : List γ} : oAll [.lst (l.map fun x => D.bl (f x))] σ = .ok (.bl (l.all f)) σ := by
  simp only [oAll, seqOf_lst, Option.bind_some, blsOf_map]
  simp [List.all_map, Function.comp_def]
theorem oLenSet_ints {l : List Int} (h : l.length <= 1000) : oLenSet (.lst (l.map D.int)) σ = .ok (.int (ddp l).length) σ := by
  simp only [oLenSet, lsOf, Option.bind_some, intsOf_map]
  rw [if_pos (show l.length <= cap from h)]
theorem ddp_go : ∀ (l s : List Int), (l.foldl PyProof.Rows.step_dedup s).length <= s.length + l.length /\ ((l.foldl PyProof.Rows.step_dedup s).length = s.length + l.length ↔ (l.Nodup /\ ∀ x ∈ l, x ∉ s))
  | [], s => by simp
  | x :: l, s => by
    rw [List.foldl_cons]
    by_cases h : s.any (· == x) = true
    · have hx : x ∈ s := by simpa using h
      rw [show PyProof.Rows.step_dedup s x = s by unfold PyProof.Rows.step_dedup; rw [if_pos h]]
      obtain ⟨h1, h2⟩ := ddp_go l s
      refine ⟨by simp only [List.length_cons]; omega, fun e => ?_, fun e => absurd hx (e.2 x List.mem_cons_self)⟩
      simp only [List.length_cons] at e; omega
    · have hx : x ∉ s := by simpa using h
      rw [show PyProof.Rows.step_dedup s x = s ++ [x] by unfold PyProof.Rows.step_dedup; rw [if_neg h]]
      obtain ⟨h1, h2⟩ := ddp_go l (s ++ [x])
      simp only [List.length_append, List.length_cons, List.length_nil] at h1 h2
      refine ⟨by simp only [List.length_cons]; omega, ?_⟩
      rw [List.length_cons, show s.length + (l.length + 1) = s.length + (0 + 1) + l.length by omega, h2, List.nodup_cons]
      constructor
      · rintro ⟨a, b⟩
        refine ⟨⟨fun hm => (b x hm) (by simp), a⟩, fun y hy => ?_⟩
        rcases List.mem_cons.mp hy with rfl | hy
        · exact hx
        · exact fun hs => b y hy (by simp [hs])
      · rintro ⟨⟨a, b⟩, c⟩
        refine ⟨b, fun y hy hs => ?_⟩
        rcases List.mem_append.mp hs with hs | hs
        · exact c y (List.mem_cons_of_mem _ hy) hs
        · rw [List.mem_singleton.mp hs] at hy; exact a hy
theorem ddp_len (l : List Int) : ((ddp l).length : Int) = (l.length : Int) ↔ l.Nodup := by
  have := (ddp_go l []).2
  simp only [List.length_nil, Nat.zero_add, List.not_mem_nil, not_false_eq_true, implies_true, and_true] at this
  unfold ddp; rw [<- this]; omega
end
end L4
namespace L4
open PySem L2
section
variable {ρ : Ev} {σ : Sto}
@[simp] theorem eMake_ap (c n : Nat) (fn : List D -> M D) (fs : Ev -> M (List D)) : eMake c n fn fs ρ σ = (fs ρ σ).bind (makeK c n fn) := nr rfl
theorem makeK_ap {c n : Nat} {fn : List D -> M D} {ds : List D} (h : ds.length + 1 = n) : makeK c n fn ds σ = noneO σ.length (fn (.ref σ.length :: ds) (σ ++ [.ins c []])) := by unfold makeK; rw [if_pos h]
@[simp] theorem makeK_1 (c : Nat) (fn : List D -> M D) (a : D) : makeK c 2 fn [a] σ = noneO σ.length (fn [.ref σ.length, a] (σ ++ [.ins c []])) := makeK_ap rfl
@[simp] theorem makeK_2 (c : Nat) (fn : List D -> M D) (a b : D) : makeK c 3 fn [a, b] σ = noneO σ.length (fn [.ref σ.length, a, b] (σ ++ [.ins c []])) := makeK_ap rfl
@[simp] theorem makeK_3 (c : Nat) (fn : List D -> M D) (a b d : D) : makeK c 4 fn [a, b, d] σ = noneO σ.length (fn [.ref σ.length, a, b, d] (σ ++ [.ins c []])) := makeK_ap rfl
@[simp] theorem makeK_5 (c : Nat) (fn : List D -> M D) (a b d e f : D) : makeK c 6 fn [a, b, d, e, f] σ = noneO σ.length (fn [.ref σ.length, a, b, d, e, f] (σ ++ [.ins c []])) := makeK_ap rfl
@[simp] theorem noneO_ok (n : Nat) : noneO n (.ok .non σ) = .ok (.ref n) σ := nr rfl
@[simp] theorem sPut_ap (cs : List Nat) (f : Str) (fv fo : Ev -> M D) : sPut cs f fv fo ρ σ = xsO ρ (putK1 ρ cs f fo) (fv ρ σ) := xs_ap ..
@[simp] theorem putK1_ap (cs : List Nat) (f : Str) (fo : Ev -> M D) (d : D) : putK1 ρ cs f fo d σ = xsO ρ (putK2 ρ cs f d) (fo ρ σ) := xs_ap ..
theorem putK2_end {cs : List Nat} {f : Str} {d : D} {c : Nat} {fs : List (Str × D)} (h : cs.contains c = true) (hl : fs.length < 1000) : putK2 ρ cs f d (.ref σ.length) (σ ++ [.ins c fs]) = .ok (.nx ρ) (σ ++ [.ins c (putD f d fs)]) := by
  have e : oPut cs f d (.ref σ.length) (σ ++ [.ins c fs]) = .ok () (σ ++ [.ins c (putD f d fs)]) := by
    have : (σ ++ [Ob.ins c fs])[σ.length]? = some (.ins c fs) := by simp
    unfold oPut; simp only [this]; rw [if_pos (by rw [h]; simpa using hl)]; simp
  unfold putK2; rw [e]
theorem zbu {c : Nat} {ns : List Str} {ds : List D} (h : ns.length = ds.length) : insOf σ (.obj c ns ds) = some (c, ns.zip ds) := by unfold insOf; dsimp only; rw [if_pos h]
theorem zce {cs : List Nat} {f : Str} {x d : D} {c : Nat} {fs : List (Str × D)} (h : insOf σ x = some (c, fs)) (hc : cs.contains c = true) (hl : fs.lookup f = some d) : oFld cs f x σ = .ok d σ := by
  unfold oFld; rw [h]; dsimp only; rw [if_pos hc, hl]
@[simp] theorem eMth_ap (tb : Mt) (n : Nat) (m : Str) (f : Ev -> M D) (fs : Ev -> M (List D)) : eMth tb n m f fs ρ σ = (f ρ σ).bind (mthK tb n m (fs ρ)) := nr rfl
theorem mthK_ap {tb : Mt} {n : Nat} {m : Str} {fs : M (List D)} {x : D} {c : Nat} {gs : List (Str × D)} {fn : List D -> M D} (h : insOf σ x = some (c, gs)) (ht : lkM tb c = some fn) (hl : gs.lookup m = none) : mthK tb n m fs x σ = (fs σ).bind (mthK2 n fn x) := by
  unfold mthK; rw [h]; dsimp only; rw [ht, hl]; rfl
theorem mthK2_ap {n : Nat} {fn : List D -> M D} {x : D} {ds : List D} (h : ds.length + 1 = n) : mthK2 n fn x ds σ = fn (x :: ds) σ := by unfold mthK2; rw [if_pos h]
@[simp] theorem mthK2_0 (fn : List D -> M D) (x : D) : mthK2 1 fn x [] σ = fn [x] σ := mthK2_ap rfl
@[simp] theorem mthK2_1 (fn : List D -> M D) (x a : D) : mthK2 2 fn x [a] σ = fn [x, a] σ := mthK2_ap rfl
@[simp] theorem mthK2_2 (fn : List D -> M D) (x a b : D) : mthK2 3 fn x [a, b] σ = fn [x, a, b] σ := mthK2_ap rfl
@[simp] theorem mthK2_4 (fn : List D -> M D) (x a b c d : D) : mthK2 5 fn x [a, b, c, d] σ = fn [x, a, b, c, d] σ := mthK2_ap rfl
theorem frzO_ins {c : Nat} {fs : List (Str × D)} (h : clL (fs.map (·.2)) = true) : frzO σ (.ok (.ref σ.length) (σ ++ [.ins c fs])) = .ok (.obj c (fs.map (·.1)) (fs.map (·.2))) σ := by
  unfold frzO
  dsimp only
  rw [if_pos (by simp)]
  have e : fz σ.length (σ ++ [.ins c fs]) 6 (.ref σ.length) = some (.obj c (fs.map (·.1)) (fs.map (·.2))) := by
    unfold fz
    rw [if_neg (by simp)]
    dsimp only
    rw [if_neg (Nat.lt_irrefl _)]
    have : (σ ++ [Ob.ins c fs])[σ.length]? = some (.ins c fs) := by simp
    rw [this]
    dsimp only
    have hl : ∀ (ys : List D) (m : Nat), clL ys = true -> fzL (fz σ.length (σ ++ [.ins c fs]) m) ys = some ys := by
      intro ys m
      induction ys with
      | nil => intro _; rfl
      | cons y ys ih =>
        intro hc
        have hc' : cl y = true /\ clL ys = true := by simpa [clL, Bool.and_eq_true] using hc
        unfold fzL
        rw [fz_cl hc'.1, ih hc'.2]
    rw [hl _ 5 h]
    rfl
  rw [e]
@[simp] theorem cl_obj (c : Nat) (ns : List Str) (ds : List D) : cl (.obj c ns ds) = clL ds := by simp [cl]
@[simp] theorem oMin2_ap (i j : Int) : oMin2 [.int i, .int j] σ = .ok (.int (min i j)) σ := nr rfl
@[simp] theorem oMax2_ap (i j : Int) : oMax2 [.int i, .int j] σ = .ok (.int (max i j)) σ := nr rfl
@[simp] theorem oIsT_bl (n b k : Bool) : oIsT n (.bl b) (.bl k) σ = .ok (.bl (if n then !(b == k) else b == k)) σ := nr rfl
@[simp] theorem oIsB_str (i : Str) : oIsB .str (.str i) σ = .ok (.bl true) σ := nr rfl
@[simp] theorem oIsB_non (c : BT) : oIsB c .non σ = .ok (.bl false) σ := by cases c <;> rfl
end
end L4
namespace L4
open PySem PySem.Spec PySem.Calls PyProof.Rows PySem.Builtin PySem.Builtin.ObjectAttr PySem.Builtin.Getset_descriptor L2
structure ExK (K : PySem.W.Frag) (C : Addr) : Prop where
  g : PySem.W.findIn K (.ref C) "__getattribute__" = some (some (.builtin "BaseException.__getattribute__"))
  g2 : PySem.W.findIn K (.ref C) "__getattr__" = some none
  mb : PySem.W.mroIn K C (.type "BaseException") = some true
  d : PySem.W.hasDictIn K C = true
  a : PySem.W.findIn K (.ref C) "__class__" = some (some (.builtin "object.__class__"))
  n : PySem.W.specialIn K (.builtin "object.__class__") "__get__" = some (some (.builtin "getset_descriptor.__get__"))
  t : PySem.W.takesIn K (.builtin "object.__class__") = some true
  m : PySem.W.mroIn K C (.type "object") = some true
section
variable {prog : Program} {w : World} {A : Around} {E : Value -> Shared -> Prop} {s : Shared} {K : PySem.W.Frag} {C ea : Addr} {hp : Heap} {Mo : Model}
end
section
variable {T : Tb} {X : Cx}
inductive ClsV (X : Cx) (y : Str) : V -> Value -> Prop where
  | own {a : Addr} (h : X.mg y = some (.ref a)) : ClsV X y (.ref a) (.ref a)
  | bt {n : String} (h : X.mg y = none) (hv : bootBuiltins y = some (.type n)) (hn : y ≠ "__name__") : ClsV X y (.ty n) (.type n)
theorem ClsV.rel {y : Str} {vc : V} {cv : Value} (h : ClsV X y vc cv) : ∀ u, zae vc u -> u = cv := by
  cases h with
  | own h => exact fun u q => q
  | bt h hv hn => exact fun u q => q
end
section
variable {ρ : Ev} {σ : Sto}
@[simp] theorem hit_as (t : Nat -> Option Bool) (i : Nat) (g : Ev -> M Fl) (x : Xn) : hit ⟨t, some i, g⟩ ρ x σ = (g (ρ.set i (some (.exn x.cls))) σ).bind (unbK i) := nr rfl
@[simp] theorem unbK_nx (i : Nat) : unbK i (.nx ρ) σ = .ok (.nx (ρ.set i none)) σ := nr rfl
@[simp] theorem unbK_rt (i : Nat) (d : D) : unbK i (.rt d) σ = .ok (.rt d) σ := nr rfl
end
end L4
namespace L4
open PySem PySem.Spec PySem.Calls PyProof.Rows L2
section
variable {T : Tb} {X : Cx}
def oListR (x : D) : M D := fun σ => match x with
  | .int j => if (decide (0 <= j) && decide (j <= 1000)) = true then .ok (.lst (zcr j.toNat)) σ else .bad
  | _ => .bad
@[simp] theorem oListR_ap (j : Int) (h0 : 0 <= j) (h1 : j <= 1000) (σ : Sto) : oListR (.int j) σ = .ok (.lst (zcr j.toNat)) σ := by
  unfold oListR; dsimp only; rw [if_pos (by simp [h0, h1])]
end
end L4
namespace HT
open PySem Builtin
open Sem (wp)
end HT
namespace L4
open PySem PySem.Spec PyProof.Rows L2
end L4
namespace HT
open PySem Builtin
open Sem (wp)
end HT
namespace L4
open PySem PySem.Spec PyProof.Rows L2
section
variable {T : Tb} {X : Cx}
def oIxB (x y : D) : M D := fun σ => match y with
  | .bl b => (match lsOf σ x with
    | some xs => (match xs[if b then 1 else 0]? with
      | some d => .ok d σ
      | none => .bad)
    | none => .bad)
  | _ => .bad
@[simp] theorem oIxB_t (a b : D) (r : List D) (σ : Sto) : oIxB (.lst (a :: b :: r)) (.bl true) σ = .ok b σ := nr rfl
@[simp] theorem oIxB_f (a : D) (r : List D) (σ : Sto) : oIxB (.lst (a :: r)) (.bl false) σ = .ok a σ := nr rfl
end
end L4
namespace L2
open PySem PySem.Spec PyProof.Rows
section
variable {κ : Type} [DecidableEq κ]
def valV (kvs : List (κ × V)) (k : κ) : Option V := (kvs.find? fun kv => decide (kv.1 = k)).map (·.2)
def putK (kvs : List (κ × V)) (k : κ) (v : V) : List (κ × V) :=
  if (kvs.any fun kv => decide (kv.1 = k)) = true then kvs.map (fun kv => if kv.1 = k then (kv.1, v) else kv) else kvs ++ [(k, v)]
def dropK (kvs : List (κ × V)) (k : κ) : List (κ × V) := kvs.filter fun kv => decide (kv.1 ≠ k)
theorem valV_pos {p : κ × V} {r : List (κ × V)} {k : κ} (e : p.1 = k) : valV (p :: r) k = some p.2 := by simp [valV, List.find?_cons, e]
theorem valV_neg {p : κ × V} {r : List (κ × V)} {k : κ} (e : ¬ p.1 = k) : valV (p :: r) k = valV r k := by simp [valV, List.find?_cons, e]
theorem valV_any (k : κ) : ∀ kvs : List (κ × V), (kvs.any fun kv => decide (kv.1 = k)) = (valV kvs k).isSome
  | [] => rfl
  | p :: r => by
    rw [List.any_cons]
    by_cases e : p.1 = k
    · simp only [valV_pos e, decide_eq_true e, Bool.true_or, Option.isSome_some]
    · rw [valV_neg e, decide_eq_false e, Bool.false_or]; exact valV_any k r
theorem length_putK (kvs : List (κ × V)) (k : κ) (v : V) : (putK kvs k v).length <= kvs.length + 1 := by
  unfold putK
  split
  · rw [List.length_map]; omega
  · rw [List.length_append, List.length_cons, List.length_nil]; omega
theorem RelO.isSome_eq {o : Option V} {u : Option Value} (r : RelO o u) : o.isSome = u.isSome := by
  cases o with
  | none => cases u with
    | none => rfl
    | some _ => exact (show False from r).elim
  | some _ => cases u with
    | none => exact (show False from r).elim
    | some _ => rfl
theorem RelO.getD {o : Option V} {u : Option Value} {d : V} {d' : Value} (r : RelO o u) (rd : zae d d') : zae (o.getD d) (u.getD d') := by
  cases o with
  | none => cases u with
    | none => exact rd
    | some _ => exact (show False from r).elim
  | some _ => cases u with
    | none => exact (show False from r).elim
    | some _ => exact r
theorem KV.val {kvs : List (κ × V)} {vs : List (κ × Value)} (r : KV kvs vs) (k : κ) : RelO (valV kvs k) (valueAt vs k) := by
  unfold KV at r
  induction r with
  | nil => exact True.intro
  | @cons p q ps qs h t ih =>
    obtain ⟨h1, h2⟩ := h
    by_cases e : p.1 = k
    · have e' : q.1 = k := h1.symm.trans e
      have b : valueAt (q :: qs) k = some q.2 := by simp [valueAt, List.find?_cons, e']
      rw [valV_pos e, b]; exact h2
    · have e' : ¬ q.1 = k := fun z => e (h1.trans z)
      have b : valueAt (q :: qs) k = valueAt qs k := by simp [valueAt, List.find?_cons, e']
      rw [valV_neg e, b]; exact ih
theorem KV.any {kvs : List (κ × V)} {vs : List (κ × Value)} (r : KV kvs vs) (k : κ) : (kvs.any fun kv => decide (kv.1 = k)) = vs.any fun kv => decide (kv.1 = k) := by
  unfold KV at r
  induction r with
  | nil => rfl
  | cons h t ih => rw [List.any_cons, List.any_cons, ih, h.1]
theorem KV.repl {kvs : List (κ × V)} {vs : List (κ × Value)} (r : KV kvs vs) (k : κ) {y : V} {u : Value} (ry : zae y u) :
    KV (kvs.map fun kv => if kv.1 = k then (kv.1, y) else kv) (vs.map fun kv => if kv.1 = k then (kv.1, u) else kv) := by
  unfold KV at r ⊢
  induction r with
  | nil => exact .nil
  | @cons p q ps qs h t ih =>
    rw [List.map_cons, List.map_cons]
    refine .cons ?_ ih
    obtain ⟨h1, h2⟩ := h
    by_cases e : p.1 = k
    · rw [if_pos e, if_pos (h1.symm.trans e)]; exact ⟨h1, ry⟩
    · rw [if_neg e, if_neg (fun z => e (h1.trans z))]; exact ⟨h1, h2⟩
theorem KV.put {kvs : List (κ × V)} {vs : List (κ × Value)} (r : KV kvs vs) (k : κ) {y : V} {u : Value} (ry : zae y u) : KV (putK kvs k y) (stored vs k u) := by
  unfold putK stored
  rw [r.any k]
  by_cases e : (vs.any fun kv => decide (kv.1 = k)) = true
  · rw [if_pos e, if_pos e]; exact r.repl k ry
  · rw [if_neg e, if_neg e]; exact Paired.snoc r ⟨rfl, ry⟩
theorem KV.drop {kvs : List (κ × V)} {vs : List (κ × Value)} (r : KV kvs vs) (k : κ) : KV (dropK kvs k) (without vs k) := by
  unfold KV at r ⊢
  unfold dropK without
  induction r with
  | nil => exact .nil
  | @cons p q ps qs h t ih =>
    obtain ⟨h1, h2⟩ := h
    rw [List.filter_cons, List.filter_cons]
    by_cases e : p.1 = k
    · have a : ¬ decide (p.1 ≠ k) = true := by simp [e]
      have b : ¬ decide (q.1 ≠ k) = true := by simp [h1.symm.trans e]
      rw [if_neg a, if_neg b]; exact ih
    · have e' : ¬ q.1 = k := fun z => e (h1.trans z)
      have a : decide (p.1 ≠ k) = true := by simp [e]
      have b : decide (q.1 ≠ k) = true := by simp [e']
      rw [if_pos a, if_pos b]; exact .cons ⟨h1, h2⟩ ih
theorem KV.keys {kvs : List (κ × V)} {vs : List (κ × Value)} (r : KV kvs vs) : kvs.map (·.1) = vs.map (·.1) := by
  unfold KV at r
  induction r with
  | nil => rfl
  | cons h t ih => rw [List.map_cons, List.map_cons, ih, h.1]
theorem KV.length {kvs : List (κ × V)} {vs : List (κ × Value)} (r : KV kvs vs) : kvs.length = vs.length := Paired.length r
end
theorem kV_is {P : Program} {w : World} {k : Key} {u : Value} (r : zae (kV k) u) : (mixKind P w).is k u = true := by
  cases k with
  | inl i => obtain ⟨t, e⟩ := (show ∃ t, u = Value.int i t from r); subst e; exact mixKind_int P w i t
  | inr x => obtain ⟨t, e⟩ := (show ∃ t, u = Value.str x t from r); subst e; exact mixKind_str P w x t
theorem items_are {P : Program} {w : World} : ∀ {ks : List Key} {us : List Value}, zag (ks.map kV) us -> ItemsAre (mixKind P w) ks us
  | [], _, r => by rw [List.map_nil] at r; cases r; exact .nil
  | k :: ks, _, r => by
    rw [List.map_cons] at r
    cases r with
    | cons h t => exact .cons (kV_is h) (items_are t)
abbrev KT (H : Hp) : List (List Key × V) -> List (List Key × Addr × Value) -> Prop := Paired fun p q => p.1 = q.1 /\ H q.2.1 = some (.tup (p.1.map kV)) /\ zae p.2 q.2.2
theorem KT.val {H : Hp} {kvs : List (List Key × V)} {xs : List (List Key × Addr × Value)} (r : KT H kvs xs) (k : List Key) : RelO (valV kvs k) ((atKey xs k).map (·.2)) := by
  induction r with
  | nil => exact True.intro
  | @cons p q ps qs h t ih =>
    obtain ⟨h1, _, h2⟩ := h
    by_cases e : p.1 = k
    · have e' : q.1 = k := h1.symm.trans e
      have b : atKey (q :: qs) k = some q.2 := by simp [atKey, List.find?_cons, e']
      rw [valV_pos e, b]; exact h2
    · have e' : ¬ q.1 = k := fun z => e (h1.trans z)
      have b : atKey (q :: qs) k = atKey qs k := by simp [atKey, List.find?_cons, e']
      rw [valV_neg e, b]; exact ih
theorem KT.repl {H : Hp} {kvs : List (List Key × V)} {xs : List (List Key × Addr × Value)} (r : KT H kvs xs) (k : List Key) {y : V} {u : Value} (ry : zae y u) :
    KT H (kvs.map fun kv => if kv.1 = k then (kv.1, y) else kv) (xs.map (putAt k u)) := by
  induction r with
  | nil => exact .nil
  | @cons p q ps qs h t ih =>
    rw [List.map_cons, List.map_cons]
    refine .cons ?_ ih
    obtain ⟨h1, h2, h3⟩ := h
    unfold putAt
    by_cases e : p.1 = k
    · rw [if_pos e, if_pos (h1.symm.trans e)]; exact ⟨h1, h2, ry⟩
    · rw [if_neg e, if_neg (fun z => e (h1.trans z))]; exact ⟨h1, h2, h3⟩
theorem KT.put {H : Hp} {kvs : List (List Key × V)} {xs : List (List Key × Addr × Value)} (r : KT H kvs xs) (k : List Key) {b : Addr} {y : V} {u : Value} (hb : H b = some (.tup (k.map kV))) (ry : zae y u) :
    KT H (putK kvs k y) (storedH xs k b u) := by
  have e : (kvs.any fun kv => decide (kv.1 = k)) = (atKey xs k).isSome := by
    rw [valV_any, (r.val k).isSome_eq, Option.isSome_map]
  unfold putK storedH
  rw [e]
  by_cases q : (atKey xs k).isSome = true
  · rw [if_pos q, if_pos q]; exact r.repl k ry
  · rw [if_neg q, if_neg q]; exact Paired.snoc r ⟨rfl, hb, ry⟩
theorem KT.keeps {H H' : Hp} {kvs : List (List Key × V)} {xs : List (List Key × Addr × Value)} (r : KT H kvs xs) (ht : ∀ b ys, H b = some (.tup ys) -> H' b = some (.tup ys)) : KT H' kvs xs :=
  Paired.mapP r fun _ _ z => ⟨z.1, ht _ _ z.2.1, z.2.2⟩
section
variable {P : Program} {w : World} {H : Hp} {h : Heap} {a : Addr}
theorem rd_of {u : HO} (ok : HOk P w H h) (e : Rd H a u) : zac P w H h a u := e.ok ok
theorem dk_rd {kvs : List (Key × V)} (ok : HOk P w H h) (e : Rd H a (.dK kvs)) : kvs.length <= sizeLine /\ (a == sysModules) = false /\ ∃ vs, KV kvs vs /\ h.DictOf (mixKind P w) a vs :=
  show zac P w H h a (.dK kvs) from rd_of ok e
theorem dk_of {kvs : List (Key × V)} (ok : HOk P w H h) (e : H a = some (.dK kvs)) : kvs.length <= sizeLine /\ (a == sysModules) = false /\ ∃ vs, KV kvs vs /\ h.DictOf (mixKind P w) a vs := dk_rd ok (.inl e)
theorem key_of {ks : List Key} (ok : HOk P w H h) (e : H a = some (.tup (ks.map kV))) : (tupleKind (mixKind P w)).is h ks a := by
  obtain ⟨_, its, r, o, h1, h2, n, h3⟩ := (show zac P w H h a (.tup (ks.map kV)) from ok a _ e)
  exact ⟨o, its.toArray, n, h1, h2, h3, by simpa using items_are r⟩
theorem dt_rd {kvs : List (List Key × V)} (ok : HOk P w H h) (e : Rd H a (.dT kvs)) : kvs.length <= sizeLine /\ (a == sysModules) = false /\
    ∃ xs, KT H kvs xs /\ h.DictOfH (tupleKind (mixKind P w)) a xs := by
  obtain ⟨z, y, xs, r, o, es, ep, h1, h2, h3, h4, h5⟩ := (show zac P w H h a (.dT kvs) from rd_of ok e)
  refine ⟨z, y, xs, r, o, es, ep, h1, h2, h3, h4, fun x hx => ?_, h5⟩
  have all : ∀ {l : List (List Key × V)} {m : List (List Key × Addr × Value)}, KT H l m -> ∀ x ∈ m, (tupleKind (mixKind P w)).is h x.1 x.2.1 := by
    intro l m q
    induction q with
    | nil => intro x hx; exact nomatch hx
    | @cons p q ps qs hq t ih =>
      intro x hx
      rcases List.mem_cons.mp hx with e | hx
      · subst e
        exact key_of ok (by rw [<- hq.1]; exact hq.2.1)
      · exact ih x hx
  exact all r x hx
theorem dt_of {kvs : List (List Key × V)} (ok : HOk P w H h) (e : H a = some (.dT kvs)) : kvs.length <= sizeLine /\ (a == sysModules) = false /\
    ∃ xs, KT H kvs xs /\ h.DictOfH (tupleKind (mixKind P w)) a xs := dt_rd ok (.inl e)
end
def DGet (H : Hp) (a : Addr) (y : V) (r : Option V) : Prop :=
  (∃ kvs k, Rd H a (.dK kvs) /\ y = kV k /\ r = valV kvs k) \/ ∃ kvs k b, Rd H a (.dT kvs) /\ y = .ref b /\ H b = some (.tup (k.map kV)) /\ r = valV kvs k
def DPut (H : Hp) (a : Addr) (y v : V) (H' : Hp) : Prop :=
  (∃ kvs k, H a = some (.dK kvs) /\ y = kV k /\ kvs.length < sizeLine /\ H' = upd H a (.dK (putK kvs k v))) \/
  ∃ kvs k b, H a = some (.dT kvs) /\ y = .ref b /\ H b = some (.tup (k.map kV)) /\ kvs.length < sizeLine /\ H' = upd H a (.dT (putK kvs k v))
theorem DGet.k {H : Hp} {a : Addr} {kvs : List (Key × V)} {k : Key} (e : H a = some (.dK kvs)) : DGet H a (kV k) (valV kvs k) := .inl ⟨kvs, k, .inl e, rfl, rfl⟩
theorem DGet.t {H : Hp} {a b : Addr} {kvs : List (List Key × V)} {k : List Key} (e : H a = some (.dT kvs)) (eb : H b = some (.tup (k.map kV))) : DGet H a (.ref b) (valV kvs k) := .inr ⟨kvs, k, b, .inl e, rfl, eb, rfl⟩
theorem DPut.k {H : Hp} {a : Addr} {kvs : List (Key × V)} {k : Key} {v : V} (e : H a = some (.dK kvs)) (hl : kvs.length < sizeLine) : DPut H a (kV k) v (upd H a (.dK (putK kvs k v))) := .inl ⟨kvs, k, e, rfl, hl, rfl⟩
theorem DPut.t {H : Hp} {a b : Addr} {kvs : List (List Key × V)} {k : List Key} {v : V} (e : H a = some (.dT kvs)) (eb : H b = some (.tup (k.map kV))) (hl : kvs.length < sizeLine) :
    DPut H a (.ref b) v (upd H a (.dT (putK kvs k v))) := .inr ⟨kvs, k, b, e, rfl, eb, hl, rfl⟩
section
variable {X : Cx} {pins : List (Addr × Obj)} {σ : St} {H : Hp} {s : Shared} {a : Addr} {y v : V} {u r : Value} {o : Option V} {A : Around} {E : Value -> Shared -> Prop}
theorem Inv.big (I : Inv X pins σ H s) : sysModules < s.heap.objs.size := by
  have h : mainGlobals < s.heap.objs.size := (I.mod.glob.keeps I.bk).lt
  exact Nat.lt_trans (by decide) h
theorem d_getItem {Q : Value -> Shared -> Prop} (hu : A.units + 1 < cLine) (I : Inv X pins σ H s) (g : DGet H a y (some v)) (ry : zae y u) (h : ∀ w' s', Inv X pins σ H s' -> zae v w' -> Q w' s') :
    wpAny (model X.prog X.w) A (getItem (.ref a) u) Q E s := by
  rcases g with ⟨kvs, k, e, ey, l⟩ | ⟨kvs, k, b, e, ey, eb, l⟩
  · subst ey
    obtain ⟨z, hd, vs, rel, dd⟩ := dk_rd I.hok e
    obtain ⟨w', hw, rw'⟩ := RelO.some_of (v := v) (o := valueAt vs k) (by rw [l]; exact rel.val k)
    exact wpAny_getItem_of (kV_is ry) dd.mapOf hw (h w' _ (I.tok _) rw')
  · subst ey
    cases (show u = Value.ref b from ry)
    obtain ⟨z, hd, xs, rel, dd⟩ := dt_rd I.hok e
    obtain ⟨w', hw, rw'⟩ := RelO.some_of (v := v) (o := (atKey xs k).map (·.2)) (by rw [l]; exact rel.val k)
    obtain ⟨p, hp, hp2⟩ := Option.map_eq_some_iff.mp hw
    refine wpAny_getItem_heap (tupleKind_room_in1 hu) (key_of I.hok eb) dd hp ?_
    rw [hp2]
    exact h w' _ (I.tok _) rw'
theorem d_in {Q : Value -> Shared -> Prop} (hu : A.units + 1 < cLine) (I : Inv X pins σ H s) (g : DGet H a y o) (ry : zae y u) (h : ∀ s', Inv X pins σ H s' -> Q (.bool o.isSome) s') :
    wpAny (model X.prog X.w) A (compareOp .In u (.ref a)) Q E s := by
  rcases g with ⟨kvs, k, e, ey, l⟩ | ⟨kvs, k, b, e, ey, eb, l⟩
  · subst ey
    obtain ⟨z, hd, vs, rel, dd⟩ := dk_rd I.hok e
    refine wpAny_in_of (kV_is ry) hd dd.mapOf ?_
    rw [<- (rel.val k).isSome_eq, <- l]
    exact h _ (I.tok _)
  · subst ey
    cases (show u = Value.ref b from ry)
    obtain ⟨z, hd, xs, rel, dd⟩ := dt_rd I.hok e
    refine wpAny_in_heap (tupleKind_room_in1 hu) (key_of I.hok eb) hd dd ?_
    have q := (rel.val k).isSome_eq
    rw [Option.isSome_map] at q
    rw [<- q, <- l]
    exact h _ (I.tok _)
theorem d_notIn {Q : Value -> Shared -> Prop} (hu : A.units + 1 < cLine) (I : Inv X pins σ H s) (g : DGet H a y o) (ry : zae y u) (h : ∀ s', Inv X pins σ H s' -> Q (.bool (!o.isSome)) s') :
    wpAny (model X.prog X.w) A (compareOp .NotIn u (.ref a)) Q E s := by
  rcases g with ⟨kvs, k, e, ey, l⟩ | ⟨kvs, k, b, e, ey, eb, l⟩
  · subst ey
    obtain ⟨z, hd, vs, rel, dd⟩ := dk_rd I.hok e
    refine wpAny_notIn_of (kV_is ry) hd dd.mapOf ?_
    rw [<- (rel.val k).isSome_eq, <- l]
    exact h _ (I.tok _)
  · subst ey
    cases (show u = Value.ref b from ry)
    obtain ⟨z, hd, xs, rel, dd⟩ := dt_rd I.hok e
    refine wpAny_notIn_heap (tupleKind_room_in1 hu) (key_of I.hok eb) hd dd ?_
    have q := (rel.val k).isSome_eq
    rw [Option.isSome_map] at q
    rw [<- q, <- l]
    exact h _ (I.tok _)
theorem d_write {h' : Heap} {t' : Nat} {ob : HO} (I : Inv X pins σ H s) (mu : Mut (H a)) (hs : Heap.SameBut a s.heap h') (he : ∃ q, h'.get? a = some q) (new : zac X.prog X.w (upd H a ob) h' a ob) :
    Inv X pins σ (upd H a ob) { s with heap := h', toks := t' } :=
  I.write (x := a) (e := a) mu (.inl rfl) (fun b q hb z => (hs.2 b hb).trans z) he new
theorem dk_new {P : Program} {w : World} {H' : Hp} {h' : Heap} {kvs : List (Key × V)} {vs : List (Key × Value)} (z : kvs.length <= sizeLine) (hd : (a == sysModules) = false) (rel : KV kvs vs) (dd : h'.DictOf (mixKind P w) a vs) :
    zac P w H' h' a (.dK kvs) := ⟨z, hd, vs, rel, dd⟩
theorem d_setItem {H' : Hp} {Q : Unit -> Shared -> Prop} (hu : A.units + 1 < cLine) (I : Inv X pins σ H s) (g : DPut H a y v H') (ry : zae y u) (rv : zae v r) (h : ∀ s', Inv X pins σ H' s' -> Q () s') :
    wpAny (model X.prog X.w) A (setItem (.ref a) u r) Q E s := by
  rcases g with ⟨kvs, k, e, ey, l, eH⟩ | ⟨kvs, k, b, e, ey, eb, l, eH⟩
  · subst ey eH
    obtain ⟨z, hd, vs, rel, dd⟩ := dk_of I.hok e
    have hz : vs.length <= sizeLine := by rw [<- rel.length]; exact z
    have hl : (putK kvs k v).length <= sizeLine := by have := length_putK kvs k v; omega
    refine wpAny_setItem_pairs (hsz := hz) (kV_is ry) dd fun h' dd' hs => h _ ?_
    have he : ∃ q, h'.get? a = some q := let ⟨q, _, _, hq, _⟩ := dd'; ⟨q, hq⟩
    exact d_write I (by rw [e]; exact True.intro) hs he (dk_new hl hd (rel.put k rv) dd')
  · subst ey eH
    cases (show u = Value.ref b from ry)
    obtain ⟨z, hd, xs, rel, dd⟩ := dt_of I.hok e
    have hz : xs.length <= sizeLine := by rw [<- Paired.length rel]; exact z
    have hl : (putK kvs k v).length <= sizeLine := by have := length_putK kvs k v; omega
    refine wpAny_setItem_heap (hsz := hz) (tupleKind_room_in1 hu) (key_of I.hok eb) dd fun h' dd' hs => h _ ?_
    obtain ⟨q, es, ep, hq, h2, h3, h4, _, h5⟩ := dd'
    refine d_write I (by rw [e]; exact True.intro) hs ⟨q, hq⟩ ⟨hl, hd, _, (rel.put k eb rv).keeps fun c ys ec => ?_, q, es, ep, hq, h2, h3, h4, h5⟩
    rw [upd_ne (ne_of ec e (fun z => nomatch z))]
    exact ec
end
section
variable {X : Cx} {pins : List (Addr × Obj)} {σ : St} {H : Hp} {s : Shared} {a : Addr} {kvs : List (Key × V)} {k : Key} {u : Value} {A : Around} {E : Value -> Shared -> Prop}
end
def NoSl (i : Expr) : Prop := ∀ ov iv, subscripted i false ov iv = operate [ov, iv] (getItem ov iv)
theorem subD_of {prog : Program} {w : World} {A : Around} {E : Value -> Shared -> Prop} {s : Shared} {env : Env} {value slice : Expr} {pos : Pos} {T id : String} {Q : Value -> Shared -> Prop}
    (hl : typeLookup (.type T) "__getitem__" = pure (some (.builtin id))) (hs : NoSl slice)
    (h : wpAny (model prog w) A (eval value env) (fun o s₁ => wpAny (model prog w) A (eval slice env) (fun i s₂ => s₂.TypeIs o T /\ wpAny (model prog w) A (getItem o i) Q E s₂) E s₁) E s) :
    wpAny (model prog w) A (eval (.Subscript value slice pos) env) Q E s := by
  refine Subscript_ (wpAny_mono h (fun o s₁ h₁ => wpAny_mono h₁ (fun i s₂ h₂ => ?_) fun _ _ x => x) fun _ _ x => x)
  obtain ⟨hT, h₂⟩ := h₂
  unfold subscriptTail
  refine wpAny_bind ?_
  rw [getitemInPython_of_ne hT.not_modules]
  refine wpAny_bind (wpAny_specialOf hT hl ?_)
  have fin : wpAny (model prog w) A (subscripted slice false o i) (fun r s₃ => wpAny (model prog w) A (letTemporaryGo value o r >>= fun _ => pure r) Q E s₃) E s₂ := by
    rw [hs o i]
    exact wpAny_operating (wpAny_mono h₂ (fun r s₃ h₃ => wpAny_bind (wpAny_letTemporaryGo (wpAny_pure h₃))) fun _ _ x => x)
  first
    | exact wpAny_pure (wpAny_bind fin)
    | exact wpAny_bind (wpAny_pure (wpAny_bind fin))
    | exact wpAny_bind fin
theorem dict_typeIs {X : Cx} {pins : List (Addr × Obj)} {σ : St} {H : Hp} {s : Shared} {a : Addr} {y : V} {o : Option V} (I : Inv X pins σ H s) (g : DGet H a y o) : s.TypeIs (.ref a) "dict" := by
  rcases g with ⟨kvs, k, e, _, _⟩ | ⟨kvs, k, b, e, _, _, _⟩
  · obtain ⟨_, _, vs, _, dd⟩ := dk_rd I.hok e
    exact dd.typeIs
  · obtain ⟨_, _, xs, _, dd⟩ := dt_rd I.hok e
    exact dd.typeIs
def tDGet (td ty : TE) : TE := fun σ H Q => td σ H fun x H1 => ty σ H1 fun y H2 => ∃ a v, x = .ref a /\ DGet H2 a y (some v) /\ Q v H2
section
variable {X : Cx} {o i e value : Expr} {pos pos' tpos : Pos} {td ty tv : TE}
theorem pe_dget (hu : X.A.units + 1 < cLine) (ho : PE X o td) (hi : PE X i ty) (hs : NoSl i) : PE X (.Subscript o i pos) (tDGet td ty) := by
  intro pins s σ H Q I h
  refine subD_of PySem.F.slot_dict_getitem.lookup hs (thn (ho pins s σ H _ I h) fun u s1 ⟨x, H1, I1, rx, q1⟩ => thn (hi pins s1 σ H1 _ I1 q1) fun iv s2 ⟨y, H2, I2, ry, a, v, ex, g, q2⟩ => ?_)
  subst ex
  obtain rfl : u = Value.ref a := rx
  exact ⟨dict_typeIs I2 g, d_getItem hu I2 g ry fun w' s3 I3 rw' => ⟨v, H2, I3, rw', q2⟩⟩
end
theorem dk_empty {P : Program} {w : World} {H : Hp} (h : Heap) (hb : sysModules < h.objs.size) : zac P w H (h.push { cls := .type "dict", data := .dict #[] }) h.objs.size (.dK []) :=
  ⟨Nat.zero_le _, beq_eq_false_iff_ne.mpr (Ne.symm (Nat.ne_of_lt hb)), [], .nil, Heap.DictOf.new h⟩
def tDNewK : TE := fun _ H Q => ∀ p, H p = none -> Q (.ref p) (upd H p (.dK []))
section
variable {X : Cx} {pos : Pos}
theorem pe_dnewK : PE X (.Dict [] [] pos) tDNewK := fun pins s σ H Q I h =>
  wpAny_Dict_empty ⟨.ref s.heap.objs.size, _, I.laid (a := s.heap.objs.size) (o := .dK []) (t' := s.toks) (fun _ _ q => Heap.get?_push_of_some _ q) (Nat.le_refl _) (dk_empty s.heap I.big), rfl, h _ (I.hok.fresh (Nat.le_refl _))⟩
end
section
variable {X : Cx} {pins : List (Addr × Obj)} {σ : St} {H : Hp} {s : Shared} {a : Addr} {kvs : List (Key × V)} {A : Around} {E : Value -> Shared -> Prop}
end
end L2
namespace L4
open PySem PySem.Spec PyProof.Rows L2
def keyD : D -> Option Key
  | .int i => some (.inl i)
  | .str x => some (.inr x)
  | _ => none
def dcOf (σ : Sto) : D -> Option (List (Key × D))
  | .dic ks xs => if ks.length = xs.length then some (ks.zip xs) else none
  | .ref n => (match σ[n]? with
    | some (.dic kvs) => some kvs
    | _ => none)
  | _ => none
def findD (kvs : List (Key × D)) (k : Key) : Option D := (kvs.find? fun kv => decide (kv.1 = k)).map (·.2)
def putDk (kvs : List (Key × D)) (k : Key) (d : D) : List (Key × D) :=
  if kvs.any (fun kv => decide (kv.1 = k)) then kvs.map fun kv => if kv.1 = k then (kv.1, d) else kv else kvs ++ [(k, d)]
section
variable {T : Tb} {X : Cx} {μ : List Addr} {H : Hp}
theorem key_rep {y : D} {v : V} {k : Key} (h : Rep T μ H y v) (e : keyD y = some k) : v = kV k := by
  cases y <;> simp [keyD] at e <;> subst e <;> rw [Rep] at h <;> exact h
theorem repk_zip : ∀ {ks : List Key} {ds : List D} {kvs : List (Key × V)}, kvs.map (·.1) = ks -> zaf T μ H ds (kvs.map (·.2)) -> RepK T μ H (ks.zip ds) kvs
  | ks, [], kvs, h1, h2 => by
    rw [zaf] at h2
    have : kvs = [] := by simpa using h2
    subst this
    rw [<- h1]; exact .nil
  | ks, d :: ds, kvs, h1, h2 => by
    rw [zaf] at h2
    obtain ⟨v, r, e, q1, q2⟩ := h2
    cases kvs with
    | nil => cases e
    | cons p kvs =>
      rw [List.map_cons] at e h1
      cases e
      rw [<- h1]
      exact .cons ⟨rfl, q1⟩ (repk_zip rfl q2)
theorem rel_dc {σ : Sto} (r : Rel T μ H σ) {x : D} {v : V} {kvs : List (Key × D)} (h : Rep T μ H x v) (e : dcOf σ x = some kvs) : ∃ a vs, v = .ref a /\ H a = some (.dK vs) /\ RepK T μ H kvs vs := by
  cases x with
  | dic ks xs =>
    rw [Rep] at h
    obtain ⟨a, vs, rfl, _, h1, h2, h3⟩ := h
    unfold dcOf at e
    dsimp only at e
    split at e
    · cases e; exact ⟨a, vs, rfl, h1, repk_zip h2 h3⟩
    · cases e
  | ref n =>
    unfold dcOf at e
    dsimp only at e
    cases q : σ[n]? with
    | none => rw [q] at e; cases e
    | some o =>
      rw [q] at e
      cases o with
      | dic kvs' =>
        cases e
        obtain ⟨a, rfl, _, vs, h1, h2⟩ := r.at h q
        exact ⟨a, vs, rfl, h1, h2⟩
      | _ => cases e
  | _ => cases e
theorem find_rep {kvs : List (Key × D)} {vs : List (Key × V)} (h : RepK T μ H kvs vs) (k : Key) : (findD kvs k = none /\ valV vs k = none) \/ ∃ d v, findD kvs k = some d /\ valV vs k = some v /\ Rep T μ H d v := by
  unfold RepK at h
  induction h with
  | nil => exact .inl ⟨rfl, rfl⟩
  | @cons p q ps qs h t ih =>
    obtain ⟨h1, h2⟩ := h
    by_cases e : p.1 = k
    · have e' : q.1 = k := h1.symm.trans e
      exact .inr ⟨p.2, q.2, by unfold findD; rw [List.find?_cons, decide_eq_true e]; rfl, valV_pos e', h2⟩
    · have e' : ¬ q.1 = k := fun z => e (h1.trans z)
      have f : findD (p :: ps) k = findD ps k := by unfold findD; rw [List.find?_cons, decide_eq_false e]
      rw [f, valV_neg e']; exact ih
theorem any_rep {kvs : List (Key × D)} {vs : List (Key × V)} (h : RepK T μ H kvs vs) (k : Key) : (kvs.any fun kv => decide (kv.1 = k)) = (vs.any fun kv => decide (kv.1 = k)) := by
  unfold RepK at h
  induction h with
  | nil => rfl
  | @cons p q ps qs h t ih => rw [List.any_cons, List.any_cons, ih, h.1]
theorem paired_map {α β : Type} {F : α -> β -> Prop} {f : α -> α} {g : β -> β} (hfg : ∀ a b, F a b -> F (f a) (g b)) : ∀ {l : List α} {m : List β}, Paired F l m -> Paired F (l.map f) (m.map g)
  | _, _, .nil => .nil
  | _, _, .cons h t => .cons (hfg _ _ h) (paired_map hfg t)
theorem paired_snoc {α β : Type} {F : α -> β -> Prop} {a : α} {b : β} (hab : F a b) : ∀ {l : List α} {m : List β}, Paired F l m -> Paired F (l ++ [a]) (m ++ [b])
  | _, _, .nil => .cons hab .nil
  | _, _, .cons h t => .cons h (paired_snoc hab t)
theorem dput_rep {kvs : List (Key × D)} {vs : List (Key × V)} (h : RepK T μ H kvs vs) (k : Key) {d : D} {v : V} (hd : Rep T μ H d v) : RepK T μ H (putDk kvs k d) (putK vs k v) := by
  unfold putDk putK
  rw [any_rep h k]
  split
  · refine paired_map (fun p q h => ?_) h
    by_cases e : p.1 = k
    · rw [if_pos e, if_pos (h.1.symm.trans e)]; exact ⟨h.1, hd⟩
    · rw [if_neg e, if_neg (fun z => e (h.1.trans z))]; exact h
  · exact paired_snoc ⟨rfl, hd⟩ h
theorem RepK.mono {μ' : List Addr} {H' : Hp} (e : Ext μ H μ' H') {kvs : List (Key × D)} {vs : List (Key × V)} (h : RepK T μ H kvs vs) : RepK T μ' H' kvs vs := Paired.mapP h fun _ _ z => ⟨z.1, Rep.mono e _ _ z.2⟩
def oDGet (x y : D) : M D := fun σ => match keyD y with
  | some k => (match dcOf σ x with
    | some kvs => (match findD kvs k with
      | some d => .ok d σ
      | none => .bad)
    | none => .bad)
  | none => .bad
theorem fe_dget {o i : Expr} {fo fi : Ev -> M D} {pos : Pos} (hu : X.A.units + 9 < cLine) (ho : FE T X o fo) (hi : FE T X i fi) (hs : NoSl i) : FE T X (.Subscript o i pos) (zap oDGet fo fi) := by
  intro pins s st H Q I h
  refine pe_dget (by omega) ho hi hs pins s st H Q I ?_
  obtain ⟨μ, ρ, σ, hE, hr, hp⟩ := h
  refine ⟨μ, ρ, σ, hE, hr, hp.bind fun x σ1 μ1 v H1 _ e1 r1 q1 p1 => ⟨μ1, ρ, σ1, hE.mono e1, r1, p1.bind fun y σ2 μ2 u H2 _ e2 r2 q2 p2 => ?_⟩⟩
  unfold oDGet at p2
  cases ek : keyD y with
  | none => rw [ek] at p2; exact p2.elim
  | some k =>
    rw [ek] at p2
    dsimp only at p2
    cases ed : dcOf σ2 x with
    | none => rw [ed] at p2; exact p2.elim
    | some kvs =>
      rw [ed] at p2
      dsimp only at p2
      obtain ⟨a, vs, rfl, h1, h2⟩ := rel_dc r2 (Rep.mono e2 _ _ q1) ed
      obtain rfl := key_rep q2 ek
      rcases find_rep h2 k with ⟨z1, _⟩ | ⟨d, w, z1, z2, z3⟩
      · rw [z1] at p2; exact p2.elim
      · rw [z1] at p2
        exact ⟨a, w, rfl, by rw [<- z2]; exact DGet.k h1, zad.here p2 r2 z3⟩
def rDIn : R2 := fun y x H Q => ∃ a o, x = .ref a /\ DGet H a y o /\ Q (.bl o.isSome) H
theorem op_din (hu : X.A.units + 9 < cLine) : OpR X (compareOp .In) rDIn := by
  intro pins s st H y x iv u Q I ry rx h
  obtain ⟨a, o, rfl, g, q⟩ := h
  obtain rfl : u = Value.ref a := rx
  exact d_in (by omega) I g ry fun s3 I3 => ⟨.bl o.isSome, H, I3, rfl, q⟩
def oDIn (y x : D) : M D := fun σ => match keyD y with
  | some k => (match dcOf σ x with
    | some kvs => .ok (.bl (findD kvs k).isSome) σ
    | none => .bad)
  | none => .bad
theorem snd_din : SndOp T rDIn oDIn := by
  intro E μ H σ y x u v Q r q p h
  unfold oDIn at h
  cases ek : keyD y with
  | none => rw [ek] at h; exact h.elim
  | some k =>
    rw [ek] at h
    dsimp only at h
    cases ed : dcOf σ x with
    | none => rw [ed] at h; exact h.elim
    | some kvs =>
      rw [ed] at h
      obtain ⟨a, vs, rfl, h1, h2⟩ := rel_dc r p ed
      obtain rfl := key_rep q ek
      refine ⟨a, valV vs k, rfl, DGet.k h1, zad.here h r ?_⟩
      rw [Rep]
      rcases find_rep h2 k with ⟨z1, z2⟩ | ⟨d, w, z1, z2, z3⟩
      · rw [z1, z2]; rfl
      · rw [z1, z2]; rfl
def rSetD : TSet := fun x y v H Q => ∃ a H', x = .ref a /\ DPut H a y v H' /\ Q H'
theorem set_dict (hu : X.A.units + 9 < cLine) : PSet X rSetD := by
  intro pins s st H o i v ov iv u Q I ro ri rv h
  obtain ⟨a, H', rfl, g, q⟩ := h
  obtain rfl : ov = Value.ref a := ro
  exact d_setItem (by omega) I g ri rv fun s4 I4 => ⟨H', I4, q⟩
def setD3 (ρ : Ev) (d x : D) (y : D) : M Fl := fun σ => match x with
  | .ref n => (match keyD y with
    | some k => (match σ[n]? with
      | some (.dic kvs) => if kvs.length < cap then .ok (.nx ρ) (σ.set n (.dic (putDk kvs k d))) else .bad
      | _ => .bad)
    | none => .bad)
  | _ => .bad
def setD2 (ρ : Ev) (fi : Ev -> M D) (d x : D) : M Fl := xs ρ (fi ρ) (setD3 ρ d x)
def setD1 (ρ : Ev) (fo fi : Ev -> M D) (d : D) : M Fl := xs ρ (fo ρ) (setD2 ρ fi d)
def sSetD (f fo fi : Ev -> M D) : Ev -> M Fl := fun ρ => xs ρ (f ρ) (setD1 ρ fo fi)
theorem fs_setD {e o i : Expr} {f fo fi : Ev -> M D} {pos pos' : Pos} (hu : X.A.units + 9 < cLine) (he : FE T X e f) (ho : FE T X o fo) (hi : FE T X i fi)
    (ha : ∀ v, assign (.Subscript o i pos') X.env v = (do
      let ov <- holding [v] (eval o X.env)
      let iv <- holding [v, ov] (eval i X.env)
      standAt pos'
      holding [v, ov, iv] (setItem ov iv v)
      release [v, ov, iv] []) := by intro _; rfl)
    (hs : swapsWithSole [.Subscript o i pos'] e pos.line X.env = pure false := by rfl) (hw : swappedStores [.Subscript o i pos'] e X.env = pure none := by rfl)
    (h1 : (assignEach [.Subscript o i pos'] X.env).map (·.2) = [assign (.Subscript o i pos') X.env] := by rfl) : FS T X (.Assign [.Subscript o i pos'] e pos) (sSetD f fo fi) := by
  intro pins s st H D I hq
  refine ps_asg he (pg_sub ho hi (set_dict hu) ha) hs hw h1 pins s st H D I ?_
  obtain ⟨μ, ρ, σ, hE, hr, hp⟩ := hq
  refine ⟨μ, ρ, σ, hE, hr, hp.xs hE fun d σ1 μ1 v H1 _ e1 r1 q1 p1 => ?_⟩
  refine ⟨μ1, ρ, σ1, hE.mono e1, r1, p1.xs (hE.mono e1) fun x σ2 μ2 vo H2 _ e2 r2 q2 p2 => ?_⟩
  refine ⟨μ2, ρ, σ2, (hE.mono e1).mono e2, r2, p2.xs ((hE.mono e1).mono e2) fun y σ3 μ3 vi H3 _ e3 r3 q3 p3 => ?_⟩
  have hd := Rep.mono e3 _ _ (Rep.mono e2 _ _ q1)
  have hx := Rep.mono e3 _ _ q2
  unfold setD3 at p3
  cases x with
  | ref n =>
    dsimp only at p3
    cases ek : keyD y with
    | none => rw [ek] at p3; exact p3.elim
    | some k =>
      rw [ek] at p3
      dsimp only at p3
      cases el : σ3[n]? with
      | none => rw [el] at p3; exact p3.elim
      | some ob =>
        rw [el] at p3
        cases ob with
        | dic kvs =>
          dsimp only at p3
          by_cases hc : kvs.length < cap
          · rw [if_pos hc] at p3
            obtain ⟨a, rfl, hn, vs, g1, g2⟩ := r3.at hx el
            obtain rfl := key_rep q3 ek
            have wr := r3.write (o := .dK (putK vs k v)) (ob := .dic (putDk kvs k d)) hn ⟨_, upd_same, by
              have ex : Ext μ3 H3 μ3 (upd H3 a (.dK (putK vs k v))) := ext_write (List.mem_of_getElem? hn) g1 (fun _ z => by cases z) (fun _ _ z => by cases z)
              exact dput_rep (RepK.mono ex g2) k (Rep.mono ex _ _ hd)⟩
            have hlen : vs.length = kvs.length := by unfold RepK at g2; exact (Paired.length g2).symm
            exact ⟨a, _, rfl, DPut.k g1 (by rw [hlen]; exact Nat.lt_of_lt_of_le hc (by decide)), p3 _ (.nx st) _ wr.1 wr.2 (((hE.mono e1).mono e2).mono e3 |>.mono wr.1)⟩
          · rw [if_neg hc] at p3; exact p3.elim
        | _ => exact p3.elim
  | _ => exact p3.elim
def eDnew : Ev -> M D := fun _ σ => .ok (.ref σ.length) (σ ++ [.dic []])
theorem fe_dnew {pos : Pos} : FE T X (.Dict [] [] pos) eDnew := by
  intro pins s st H Q I h
  obtain ⟨μ, ρ, σ, hE, hr, hp⟩ := h
  refine pe_dnewK pins s st H Q I fun p hn => ?_
  exact hp (μ ++ [p]) (.ref p) _ (ext_push hn) (hr.push hn ⟨[], upd_same, .nil⟩) (rep_push hr)
def oDcp (ds : List D) : M D := fun σ => match ds with
  | [x] => (match dcOf σ x with
    | some kvs => .ok (.dic (kvs.map (·.1)) (kvs.map (·.2))) σ
    | none => .bad)
  | _ => .bad
end
end L4
namespace L4
open PySem PySem.Spec PyProof.Rows L2
section
variable {T : Tb} {X : Cx}
structure InK (K : PySem.W.Frag) (C : Addr) : Prop where
  cl : L2.Cls K C
  a : PySem.W.findIn K (.ref C) "__class__" = some (some (.builtin "object.__class__"))
  n : PySem.W.specialIn K (.builtin "object.__class__") "__get__" = some (some (.builtin "getset_descriptor.__get__"))
  t : PySem.W.takesIn K (.builtin "object.__class__") = some true
  m : PySem.W.mroIn K C (.type "object") = some true
def rIsO (K : PySem.W.Frag) (cv : Addr) : List V -> Hp -> VK -> Prop := fun xs H Q => ∃ a C dx fs b, xs = [.ref a, .ref cv] /\ H a = some (.ins C dx fs) /\ InK K C /\ PySem.W.kitOne K (.ref C) (.ref cv) = some b /\ Q (.bl b) H
theorem call_isO {cv : Addr} : CallR X (.builtin "isinstance") (rIsO X.K cv) := by
  intro pins s st H xs us Q I r h
  obtain ⟨a, C, dx, fs, b, rfl, ea, Z, e, q⟩ := h
  obtain ⟨u, u2, rfl, ru, ru2⟩ := vals2 r
  cases ru2
  exact isinst_ok I ru (.ins ea Z.cl Z.a Z.n Z.t Z.m) e fun tk => ⟨.bl b, H, I.tok _, rfl, q⟩
def oIsO (t : Nat -> Option Bool) (x : D) : M D := fun σ => match insOf σ x with
  | some (c, _) => (match t c with | some b => .ok (.bl b) σ | none => .bad)
  | none => .bad
def IoOk (K : PySem.W.Frag) (ca : Nat -> Addr) (cv : Addr) (l : List (Nat × Bool)) : Prop := ∀ p ∈ l, InK K (ca p.1) /\ PySem.W.kitOne K (.ref (ca p.1)) (.ref cv) = some p.2
theorem io_nil {K : PySem.W.Frag} {ca : Nat -> Addr} {cv : Addr} : IoOk K ca cv [] := fun _ h => nomatch h
theorem io_cons {K : PySem.W.Frag} {ca : Nat -> Addr} {cv : Addr} {c : Nat} {b : Bool} {l : List (Nat × Bool)} (z : InK K (ca c)) (h : PySem.W.kitOne K (.ref (ca c)) (.ref cv) = some b) (r : IoOk K ca cv l) : IoOk K ca cv ((c, b) :: l) := fun p hp => by
  rcases List.mem_cons.mp hp with rfl | hp
  · exact ⟨z, h⟩
  · exact r p hp
theorem fe_isO {y : Str} {cv : Addr} {l : List (Nat × Bool)} {e : Expr} {f : Ev -> M D} {p p2 pos : Pos} (hK : T.K = X.K) (he : FE T X e f) (hg : Gl X "isinstance") (hm : X.mg "isinstance" = none) (hg2 : Gl X y) (hd2 : (y == ("__debug__" : Str)) = false) (hc : X.mg y = some (.ref cv))
    (ht : IoOk X.K T.ca cv l)
    (hs : starEach [e, .Name y p2] X.env = (false, eval e X.env) :: starEach [.Name y p2] X.env := by rfl) (hpl : (backTo pos (starEach [.Name y p2] X.env)).any (·.1) = false := by rfl) :
    FE T X (.Call (.Name "isinstance" p) [e, .Name y p2] [] pos) (eUn (oIsO (htab l)) f) := by
  intro pins s st H Q I h
  refine pe_callB (call_isO (cv := cv)) hg hm boot_isinstance (pa_cons he (pa_cons (pe_glob (v := .ref cv) hg2 hc rfl hd2) pa_nil) hs) (by decide) (by decide) hs hpl pins s st H Q I ?_
  obtain ⟨μ, ρ, σ, hE, hr, hp⟩ := h
  refine ⟨μ, ρ, σ, hE, hr, hp.bind fun x σ1 μ1 v H1 _ e1 r1 p1 q1 => ?_⟩
  unfold oIsO at q1
  cases ei : insOf σ1 x with
  | none => rw [ei] at q1; exact q1.elim
  | some cf =>
    obtain ⟨c, fs⟩ := cf
    rw [ei] at q1
    dsimp only at q1
    cases et : htab l c with
    | none => rw [et] at q1; exact q1.elim
    | some b =>
      rw [et] at q1
      obtain ⟨a, dx, vs, rfl, h1, _⟩ := ins_rep r1 p1 ei
      obtain ⟨z1, z2⟩ := ht (c, b) (lk_mem et)
      exact ⟨a, T.ca c, dx, vs, b, rfl, h1, z1, z2, zad.here q1 r1 (by rw [Rep])⟩
theorem oIsO_ap {l : List (Nat × Bool)} {x : D} {c : Nat} {fs : List (Str × D)} {b : Bool} {σ : Sto} (h : insOf σ x = some (c, fs)) (h2 : htab l c = some b) : oIsO (htab l) x σ = .ok (.bl b) σ := by
  unfold oIsO; rw [h]; dsimp only; rw [h2]
def likeK : List (Key × D) -> List (Key × D) -> Bool
  | [], [] => true
  | (k, .int i) :: r, (k', .int j) :: r' => decide (k = k') && (i == j) && likeK r r'
  | _, _ => false
theorem likeK_self : ∀ {l : List (Key × D)}, (∀ p ∈ l, ∃ i, p.2 = .int i) -> likeK l l = true
  | [], _ => rfl
  | (k, d) :: r, h => by
    obtain ⟨i, e⟩ := h (k, d) List.mem_cons_self
    dsimp only at e
    subst e
    unfold likeK
    rw [likeK_self fun p hp => h p (List.mem_cons_of_mem _ hp)]
    simp
def oEqK (x y : D) : M D := fun σ => match dcOf σ x with
  | some k1 => (match dcOf σ y with
    | some k2 => if likeK k1 k2 = true then .ok (.bl true) σ else .bad
    | none => .bad)
  | none => .bad
end
end L4
namespace L4
open PySem PySem.Spec PyProof.Rows L2
section
variable {T : Tb} {X : Cx}
inductive CDs (X : Cx) : List (Option Expr) -> List Expr -> List (Str × Str) -> Prop
  | nil : CDs X [] [] []
  | cons {k v : Expr} {x y : Str} {ks : List (Option Expr)} {vs : List Expr} {l : List (Str × Str)} : PE X k (tC (.str x)) -> PE X v (tC (.str y)) -> CDs X ks vs l -> CDs X (some k :: ks) (v :: vs) ((x, y) :: l)
theorem CDs.all {ks vs l} (h : CDs X ks vs l) : ks.all (·.isSome) = true /\ ks.length = vs.length /\ ks.length = l.length := by
  induction h with
  | nil => exact ⟨rfl, rfl, rfl⟩
  | cons _ _ _ ih => exact ⟨by simpa using ih.1, by simpa using ih.2.1, by simpa using ih.2.2⟩
end
end L4
namespace L4
open PySem PySem.Spec PyProof.Rows L2
def augK (o : Int -> Int -> Int) (i : Nat) (ρ : Ev) (x d : D) : M Fl := fun σ => match x, d with
  | .int a, .int b => .ok (.nx (ρ.set i (some (.int (o a b))))) σ
  | _, _ => .bad
def sAug (o : Int -> Int -> Int) (i : Nat) (f : Ev -> M D) : Ev -> M Fl := fun ρ => match ρ[i]? with
  | some (some x) => xs ρ (f ρ) (augK o i ρ x)
  | _ => fun _ => .bad
theorem sAug_ap {o : Int -> Int -> Int} {i : Nat} {f : Ev -> M D} {ρ : Ev} {σ : Sto} {x : D} (h : ρ[i]? = some (some x)) : sAug o i f ρ σ = xsO ρ (augK o i ρ x) (f ρ σ) := by
  unfold sAug; rw [h]; exact xs_ap ..
@[simp] theorem augK_ii (o : Int -> Int -> Int) (i : Nat) (ρ : Ev) (a b : Int) (σ : Sto) : augK o i ρ (.int a) (.int b) σ = .ok (.nx (ρ.set i (some (.int (o a b))))) σ := nr rfl
section
variable {T : Tb} {X : Cx} {e : Expr} {f : Ev -> M D} {pos : Pos}
theorem fs_aug {i : Nat} {x : Str} {pos' : Pos} {op : Operator} {o : Int -> Int -> Int} (ho : PIp X op (ipI o)) (hN : X.N.Nodup) (hi : X.N[i]? = some x) (hx : Loc X.env.scope x) (he : FE T X e f) (hf : X.fn x = true \/ X.env.scope.names.lookup x = some .local := by first | exact .inl rfl | exact .inr rfl | assumption) :
    FS T X (.AugAssign (.Name x pos') op e pos) (sAug o i f) := by
  intro pins s st H D I hw
  refine ps_aug hN hi hx he ho hf pins s st H D I ?_
  obtain ⟨μ, ρ, σ, hE, hr, hp⟩ := hw
  unfold sAug at hp
  cases e0 : ρ[i]? with
  | none => rw [e0] at hp; exact hp.elim
  | some q =>
    cases q with
    | none => rw [e0] at hp; exact hp.elim
    | some d =>
      rw [e0] at hp
      obtain ⟨v, h1, h2⟩ := hE.2 i d e0
      refine ⟨v, h1, μ, ρ, σ, hE, hr, hp.xs hE fun y σ1 μ1 vy H1 _ e1 r1 q1 p1 => ?_⟩
      cases d with
      | int a =>
        cases y with
        | int b =>
          rw [Rep] at h2 q1
          subst h2 q1
          exact ⟨a, b, rfl, rfl, zad.here (g := Gl2.nx (st.set i (some (.int (o a b))))) p1 r1 ((hE.mono e1).set i (by rw [Rep]))⟩
        | _ => exact p1.elim
      | _ => exact p1.elim
end
end L4
namespace L4
open PySem PySem.Spec PySem.Calls PyProof.Rows L2
section
variable {T : Tb} {X : Cx}
end
end L4
namespace L4
open PySem PySem.Spec PyProof.Rows L2
section
variable {T : Tb} {X : Cx} {o e : Expr} {es : List Expr} {f : Ev -> M D} {fs : Ev -> M (List D)} {name : Str} {apos cpos : Pos} {id : String} {r : V -> List V -> Hp -> VK -> Prop} {g : D -> List D -> M D}
end
end L4
namespace L4
open PySem PySem.Spec PyProof.Rows L2
open Classical in
section
variable {T : Tb} {X : Cx}
end
end L4
namespace L4
open PySem PySem.Spec PyProof.Rows L2
section
variable {T : Tb} {X : Cx}
end
section
variable {T : Tb} {X : Cx} {tg iter : Expr} {f : Ev -> M D}
end
section
variable {T : Tb} {X : Cx} {o e : Expr} {es : List Expr} {f : Ev -> M D} {fs : Ev -> M (List D)} {name : Str} {apos cpos : Pos} {id : String} {r : V -> List V -> Hp -> VK -> Prop} {g : D -> List D -> M D}
end
end L4
namespace L4
open PySem PySem.Spec PyProof.Rows L2
def sBad : Ev -> M Fl := fun _ _ => .bad
theorem fs_bad {T : Tb} {X : Cx} {e : Stmt} : FS T X e sBad := fun pins s st H D I ⟨μ, ρ, σ, _, _, hp⟩ => hp.elim
section
variable {X : Cx} {pins : List (Addr × Obj)} {σ : St} {H : Hp} {s : Shared} {h' : Heap}
theorem ne_none {H : Hp} {a b : Addr} {u : HO} (e : H b = some u) (n : H a = none) : b ≠ a := fun z => by rw [z, n] at e; cases e
theorem _root_.L2.Inv.turnL {t' : Nat} {its : List Addr} {p : Addr} {o : HO} (I : Inv X pins σ H s) (k : ∀ b u, b ∉ its -> s.heap.get? b = some u -> h'.get? b = some u) (hf : ∀ b ∈ its, FpOk X pins H b) (hp : s.heap.objs.size <= p) (new : zac X.prog X.w (upd H p o) h' p o) :
    Inv X pins σ (upd H p o) { s with heap := h', toks := t' } := by
  have hn : H p = none := I.hok.fresh hp
  have nit : ∀ b u, H b = some u -> b ∉ its := fun b u e z => by rw [(hf b z).1] at e; cases e
  refine I.step (g' := s.gens) (d' := s.drawn) (ch := its) (fun b hb => ?_) (fun b o _ _ hc e _ => k b o hc e) (fun b o _ _ hc e _ => ⟨o.slots, k b o hc e⟩) (fun b u _ q n => by rw [upd_ne (Nat.ne_of_lt (Nat.lt_of_lt_of_le (Heap.lt_size q) hp))]; exact n)
    (fun b o hc e => ⟨o, k b o hc e⟩) (fun b xs q => by rw [upd_ne (ne_none q hn)]; exact q) (fun b u xs q => by rw [upd_ne (ne_none q hn)]; exact q) (fun b ps q => ⟨#[], by rw [upd_ne (ne_none q hn), q]; simp⟩) (fun m hm => ?_) (fun b u e => ?_) I.bare
  · obtain ⟨f0, f1, f2, f3, f4, f5⟩ := hf b hb
    exact ⟨f3, f1, f4, f5⟩
  · obtain ⟨o, es, ep, ho, r⟩ := hm
    exact ⟨o, es, ep, k _ o (fun z => (hf _ z).2.1 rfl) ho, r⟩
  · by_cases hb : b = p
    · subst hb; rw [upd_same] at e; cases e; exact new
    · rw [upd_ne hb] at e
      refine (I.hok b u e).stay (fun c v hc q => k c v ?_ q) (fun c q => by rw [upd_ne (ne_none q hn)]; exact q) fun c xs q => by rw [upd_ne (ne_none q hn)]; exact q
      rcases hc with z | z
      · rw [z]; exact nit b u e
      · exact nit c _ z
theorem _root_.L2.Inv.turnN {t' : Nat} {its : List Addr} (I : Inv X pins σ H s) (k : ∀ b u, b ∉ its -> s.heap.get? b = some u -> h'.get? b = some u) (hf : ∀ b ∈ its, FpOk X pins H b) : Inv X pins σ H { s with heap := h', toks := t' } := by
  have nit : ∀ b u, H b = some u -> b ∉ its := fun b u e z => by rw [(hf b z).1] at e; cases e
  refine I.step (g' := s.gens) (d' := s.drawn) (ch := its) (fun b hb => ?_) (fun b o _ _ hc e _ => k b o hc e) (fun b o _ _ hc e _ => ⟨o.slots, k b o hc e⟩) (fun b u _ q n => n)
    (fun b o hc e => ⟨o, k b o hc e⟩) (fun b xs q => q) (fun b u xs q => q) (fun b ps q => ⟨#[], by rw [q]; simp⟩) (fun m hm => ?_) (fun b u e => ?_) I.bare
  · obtain ⟨f0, f1, f2, f3, f4, f5⟩ := hf b hb
    exact ⟨f3, f1, f4, f5⟩
  · obtain ⟨o, es, ep, ho, r⟩ := hm
    exact ⟨o, es, ep, k _ o (fun z => (hf _ z).2.1 rfl) ho, r⟩
  · refine (I.hok b u e).stay (fun c v hc q => k c v ?_ q) (fun _ q => q) fun _ _ q => q
    rcases hc with z | z
    · rw [z]; exact nit b u e
    · exact nit c _ z
end
theorem cls_ne {h : Heap} {a b : Addr} {o o' : Obj} {n n' : String} (e : h.get? a = some o) (e' : h.get? b = some o') (c : o.cls = .type n) (c' : o'.cls = .type n') (hn : n ≠ n') : a ≠ b := fun z => by
  subst z; rw [e] at e'; cases e'; rw [c] at c'; injection c' with q; exact hn q
def Ite (K : PySem.W.Frag) (l : Addr) : It :=
  ⟨fun i H => ∃ xs x, SqL K H l xs /\ xs[i]? = some x, fun i H v H' => ∃ p x, H p = none /\ v = .ref p /\ (∀ xs, SqL K H l xs -> xs[i]? = some x) /\ H' = upd H p (.tup [.int i, x]), fun i H => ∃ xs, SqL K H l xs /\ i = xs.length⟩
theorem turn_enum {P : Program} {w : World} {K : PySem.W.Frag} {elts : List Expr} {kk : Nat} {pos : Pos} (l e it : Addr) : Turn P w K (.Tuple elts kk pos) (Ite K l) [e, it] e (fun i h => (∃ old, IsEnum h e it i old) /\ h.IsListIter it l i) where
  mem := by simp
  obj := fun i h st b hb => by
    obtain ⟨⟨old, s1⟩, o, s2, c, d⟩ := st
    simp only [List.mem_cons, List.not_mem_nil, or_false] at hb
    rcases hb with rfl | rfl
    · exact ⟨_, s1, fun v z => by cases z⟩
    · exact ⟨o, s2, fun v z => by rw [d] at z; cases z⟩
  keep := fun i h h' st k => by
    obtain ⟨⟨old, s1⟩, s2⟩ := st
    exact ⟨⟨old, k e (by simp) _ s1⟩, s2.at fun o q => k it (by simp) o q⟩
  item := by
    intro X hP hw hK hc i pins s σ H E I hf st hg
    subst hP hw hK
    obtain ⟨xs, x, hq, hx⟩ := hg
    obtain ⟨its, rv, p, hz⟩ := I.list hq
    obtain ⟨u, hu, ru⟩ := rv.get hx
    obtain ⟨⟨old, s1⟩, s2⟩ := st
    obtain ⟨oa, ea, ca, _⟩ := id p.isList
    obtain ⟨ob, eb, cb, _⟩ := id s2
    have nle : l ≠ e := cls_ne ea s1 ca rfl (by decide)
    have nli : l ≠ it := cls_ne ea eb ca cb (by decide)
    have nei : e ≠ it := cls_ne s1 eb rfl cb (by decide)
    have W := WalksT.enumerate (prog := X.prog) (w := X.w) (A := X.A) (I.ok.hd hc) e it l nei nle nli its.toArray
    have hi : i < its.toArray.size := by
      have := (List.getElem?_eq_some_iff.mp hu).1
      simpa using this
    refine W.item i s _ E hi ⟨⟨old, s1⟩, s2, p.isList⟩ fun T vals h' tk hPt hT hTup hMid hk => ?_
    obtain ⟨t, y, hy, rfl⟩ := hPt
    have ey : y = u := by
      have : its.toArray[i]? = some u := by simpa using hu
      rw [this] at hy; cases hy; rfl
    subst ey
    refine ⟨.ref T, rfl, W.go elts kk pos i T { s with heap := h', toks := tk } _ E hMid fun h2 hS hk2 => ?_⟩
    have hap := W.apart i T h' hMid
    have hTup2 : h2.IsTuple T #[.int i t, y] := by
      obtain ⟨o, e1, c1⟩ := hTup
      exact ⟨o, hk2 T o hap e1, c1⟩
    have hn : H T = none := I.hok.fresh hT
    refine ⟨.ref T, upd H T (.tup [.int i, x]), I.turnL (o := .tup [.int i, x]) (fun b o hb q => hk2 b o hb (hk b o hb q)) hf hT ?_, rfl, ⟨T, x, hn, rfl, fun ys hy => by rw [I.list_inj hy hq]; exact hx, rfl⟩, ⟨hS.1, hS.2.1⟩, fun b hb => ?_⟩
    · exact ⟨(show (2 : Nat) <= sizeLine by decide), [.int i t, y], .cons ⟨t, rfl⟩ (.cons ru .nil), hTup2⟩
    · rw [upd_ne (fun z => hap (by rw [<- z]; exact hb))]
      exact (hf b hb).1
  done := by
    intro X hP hw hK hc i pins s σ H E I hf st hg
    subst hP hw hK
    obtain ⟨xs, hq, hx⟩ := hg
    obtain ⟨its, rv, p, hz⟩ := I.list hq
    obtain ⟨⟨old, s1⟩, s2⟩ := st
    have hl := rv.length
    exact wpAny_pyNext_enum_end (I.ok.hd hc) s1 s2 p.isList (by simp; omega) fun h' eb => ⟨rfl, I.turnN (t' := s.toks) (fun b o hb q => eb b o (fun z => hb (by simp [z])) q) hf⟩
  self := fun A i s Q E st h => by
    obtain ⟨⟨old, s1⟩, s2⟩ := st
    exact wpAny_pyIter_enum s1 h
abbrev NX := Nat -> Sto -> Option (Option D)
def SrcN (T : Tb) (μ0 : List Addr) (H0 : Hp) (nx : NX) (J : It) : Prop := ∀ μ H σ i, Ext μ0 H0 μ H -> Rel T μ H σ -> match nx i σ with
  | none => True
  | some none => J.stop i H
  | some (some d) => J.go i H /\ ∀ x H', J.yld i H x H' -> Ext μ H μ H' /\ Rel T μ H' σ /\ Rep T μ H' d x
def tIN (T : Tb) (X : Cx) (f : Ev -> M NX) : TI := fun st H R => ∃ μ ρ σ, ERep T μ H ρ st /\ Rel T μ H σ /\ zad T (XE X st) (SrcN T) μ H (f ρ σ) R
abbrev FIN (T : Tb) (X : Cx) (tg iter : Expr) (f : Ev -> M NX) : Prop := PI X tg iter (tIN T X f)
def loopN (nx : NX) (tg : D -> Ev -> Option Ev) (body : Ev -> M Fl) : Nat -> Nat -> Ev -> M Fl
  | 0, _, _ => bad
  | k + 1, i, ρ => fun σ => match nx i σ with
    | none => .bad
    | some none => .ok (.nx ρ) σ
    | some (some d) => match tg d ρ with
      | none => .bad
      | some ρ1 => bnd (body ρ1) (loopK (loopN nx tg body k (i + 1))) σ
def forNK (tg : D -> Ev -> Option Ev) (body : Ev -> M Fl) (ρ : Ev) (nx : NX) : M Fl := loopN nx tg body 1001 0 ρ
def sForN (src : Ev -> M NX) (tg : D -> Ev -> Option Ev) (body : Ev -> M Fl) : Ev -> M Fl := fun ρ => xs ρ (src ρ) (forNK tg body ρ)
section
variable {T : Tb} {X : Cx} {tgt iter : Expr} {body : List Stmt} {src : Ev -> M NX} {t : D -> Ev -> Option Ev} {g : Ev -> M Fl} {pos : Pos}
theorem fs_forN (hp : PassesOwn (model X.prog X.w) X.A X.env X.xe) (hc : X.calm = true) (hi : FIN T X tgt iter src) (hg : FG T X tgt t) (hb : FSs T X body g)
    (hs : ∀ x, foldedSetIterable iter X.env x = pure x := by intro _; rfl) : FS T X (.For tgt iter body [] pos) (sForN src t g) := by
  intro pins s st H D I hq
  refine ps_for hp hc hi hg hb hs pins s st H D I ?_
  obtain ⟨μ, ρ, σ, hE, hr, hp⟩ := hq
  refine ⟨μ, ρ, σ, hE, hr, hp.xs hE fun nx σ1 μ1 J H1 _ e1 r1 q1 p1 => ?_⟩
  have p1' : zad T EN (RFl T) μ1 H1 (loopN nx t g 1001 0 ρ σ1) (EndQ X D) := p1
  refine ⟨fun i m st2 H2 => ∃ μ ρ σ, Ext μ1 H1 μ H2 /\ ERep T μ H2 ρ st2 /\ Rel T μ H2 σ /\ zad T EN (RFl T) μ H2 (loopN nx t g m i ρ σ) (EndQ X D), ⟨1001, μ1, ρ, σ1, Ext.refl _ _, hE.mono e1, r1, p1'⟩, ?_⟩
  rintro i m st2 H2 ⟨μ2, ρ2, σ2, ex, hE2, r2, p2⟩
  cases m with
  | zero => exact p2.elim
  | succ m =>
    unfold loopN at p2
    have so := q1 μ2 H2 σ2 i ex r2
    cases en : nx i σ2 with
    | none => simp only [en] at p2; exact p2.elim
    | some o =>
      cases o with
      | none =>
        simp only [en] at p2 so
        exact .inl ⟨so, zad.here (g := Gl2.nx st2) p2 r2 hE2⟩
      | some d =>
        simp only [en] at p2 so
        obtain ⟨hgo, hy⟩ := so
        refine .inr ⟨hgo, fun st3 H3 => ∃ μ ρ σ, Ext μ1 H1 μ H3 /\ ERep T μ H3 ρ st3 /\ Rel T μ H3 σ /\ zad T EN (RFl T) μ H3 (loopN nx t g m (i + 1) ρ σ) (EndQ X D), fun st3 H3 h => ⟨m, Nat.lt_succ_self _, h⟩, fun x H3 y => ?_⟩
        obtain ⟨ex3, r3, hx⟩ := hy x H3 y
        cases ht : t d ρ2 with
        | none => simp only [ht] at p2; exact p2.elim
        | some ρ3 =>
          simp only [ht] at p2
          exact ⟨μ2, σ2, ρ2, d, ρ3, hE2.mono ex3, r3, hx, ht, fun st3 hE3 => ⟨μ2, ρ3, σ2, hE3, r3, (zad.mono ex3 p2).bind fun fl σ4 μ4 gl H4 _ e4 r4 q4 p4 => turn_end r4 q4 p4 fun ρ5 st5 hE5 p5 => ⟨μ4, ρ5, σ4, (ex.trans ex3).trans e4, hE5, r4, p5⟩⟩⟩
end
def nxE (a : D) : NX := fun i σ => match lsOf σ a with
  | some xs => (match xs[i]? with
    | some x => some (some (.tup [.int (i : Int), x]))
    | none => if i = xs.length then some none else none)
  | none => none
def enumK (d : D) : M NX := fun σ => match lsOf σ d with
  | some _ => .ok (nxE d) σ
  | none => .bad
def srcE (f : Ev -> M D) : Ev -> M NX := fun ρ => bnd (f ρ) enumK
section
variable {T : Tb} {X : Cx} {elts : List Expr} {kk : Nat} {p0 p pos : Pos} {f g : Ev -> M D}
theorem bt_enumerate : bootBuiltins "enumerate" = some (.type "enumerate") := by decide +kernel
def iEnum (K : PySem.W.Frag) (ta : TA) : TI := fun σ H R => ta σ H fun vs H1 => ∃ l xs, vs = [.ref l] /\ SqL K H1 l xs /\ R (Ite K l) H1
theorem pi_enum {a : Expr} {ta : TA} (hg : Gl X "enumerate") (hm : X.mg "enumerate" = none) (ha : PA X [a] ta) (hs : starEach [a] X.env = [(false, eval a X.env)] := by rfl) : PI X (.Tuple elts kk p0) (.Call (.Name "enumerate" p) [a] [] pos) (iEnum X.K ta) := by
  intro pins s σ H R I h
  refine Call_ (ld_blt I hg hm bt_enumerate (PyProof.Rows.callWith_type1 (thn (ha pos pins s σ H _ I h) fun us s1 ⟨vs, H1, I1, r1, q1⟩ => ?_) hs rfl))
  obtain ⟨l, xs, e, hq, q⟩ := q1
  subst e
  cases r1 with
  | cons r rr =>
    cases rr
    cases r
    obtain ⟨its, rv, pl, hz⟩ := I1.list hq
    refine call_enumerate_list pl.isList fun h' a1 a2 a3 a4 => wpAny_pyIter_enum a1 ?_
    refine ⟨s1.heap.objs.size + 1, [s1.heap.objs.size + 1, s1.heap.objs.size], _, _, H1, rfl, I1.kept (t' := s1.toks) a4, turn_enum l _ _, ⟨⟨_, a1⟩, a2⟩, fun b hb => ?_, q⟩
    have hb' : s1.heap.objs.size <= b := by simp at hb; rcases hb with rfl | rfl <;> omega
    exact I1.fpOk hb' (I1.hok.fresh hb')
theorem fi_enum {e : Expr} (hg : Gl X "enumerate") (hm : X.mg "enumerate" = none) (h : FE T X e f) (hs : starEach [e] X.env = [(false, eval e X.env)] := by rfl) : FIN T X (.Tuple elts kk p0) (.Call (.Name "enumerate" p) [e] [] pos) (srcE f) := by
  intro pins s st H R I hw
  refine pi_enum hg hm (pa_cons h pa_nil hs) hs pins s st H R I ?_
  obtain ⟨μ, ρ, σ, hE, hr, hp⟩ := hw
  refine ⟨μ, ρ, σ, hE, hr, hp.bind fun d σ1 μ1 v H1 _ e1 r1 q1 p1 => ?_⟩
  unfold enumK at p1
  cases el : lsOf σ1 d with
  | none => rw [el] at p1; exact p1.elim
  | some ds =>
    rw [el] at p1
    obtain ⟨l, vs, rfl, h1, h2⟩ := r1.ls q1 el
    refine ⟨l, vs, rfl, SqL.of h1, zad.here (R := SrcN T) p1 r1 fun μ2 H2 σ2 i ex r2 => ?_⟩
    unfold nxE
    cases el2 : lsOf σ2 d with
    | none => trivial
    | some xs =>
      obtain ⟨l', ws, e', h3, h4⟩ := r2.ls (Rep.mono ex _ _ q1) el2
      cases e'
      have hq2 : SqL X.K H2 l ws := SqL.of h3
      dsimp only
      cases ei : xs[i]? with
      | none =>
        dsimp only
        by_cases hi : i = xs.length
        · rw [if_pos hi]; exact ⟨ws, hq2, by rw [hi]; exact h4.length⟩
        · rw [if_neg hi]; trivial
      | some d' =>
        obtain ⟨x, hx, rx⟩ := h4.get ei
        refine ⟨⟨ws, x, hq2, hx⟩, fun z H' y => ?_⟩
        obtain ⟨q, x', hn', rfl, hall, rfl⟩ := y
        have hx' := hall ws hq2
        rw [hx] at hx'
        cases hx'
        refine ⟨ext_new hn', r2.fresh hn', ?_⟩
        rw [Rep]
        exact ⟨q, _, rfl, upd_same, zaf.cons (by rw [Rep]) (zaf.cons (Rep.mono (ext_new hn') _ _ rx) zaf.nil)⟩
end
end L4
namespace L4
open PySem PySem.Spec PyProof.Rows L2
open PySem.Builtin.Str (occurrences partsBetween subAt)
end L4
namespace L4
open PySem PySem.Spec PyProof.Rows L2
section
variable {T : Tb} {X : Cx} {a b c : Expr} {fa fb fc : Ev -> M D} {pos : Pos}
end
end L4
namespace L4
open PySem PySem.Spec PyProof.Rows L2
def augK3 (ρ : Ev) (c : Nat) (f : Str) (x : D) (a : Int) (y : D) : M Fl := fun σ => match y with
  | .int b => (match x with
    | .ref n => (match σ[n]? with
      | some (.ins c' fs) => if (c' == c && decide (fs.length < 1000)) = true then .ok (.nx ρ) (σ.set n (.ins c (putD f (.int (a + b)) fs))) else .bad
      | _ => .bad)
    | _ => .bad)
  | _ => .bad
def augK1 (ρ : Ev) (cs : List Nat) (f : Str) (fv : Ev -> M D) (x : D) : M Fl := fun σ => match insOf σ x with
  | some (c, fs) => if cs.contains c = true then (match fs.lookup f with
    | some (.int a) => xs ρ (fv ρ) (augK3 ρ c f x a) σ
    | _ => .bad) else .bad
  | none => .bad
def sFAug (cs : List Nat) (f : Str) (fv fo : Ev -> M D) : Ev -> M Fl := fun ρ => xs ρ (fo ρ) (augK1 ρ cs f fv)
section
variable {T : Tb} {X : Cx}
theorem fs_fldaug {o value : Expr} {f : Str} {fv fo : Ev -> M D} {pos tpos : Pos} {cs : List Nat} (hK : T.K = X.K) (hc : FldOk T cs f) (ho : FE T X o fo) (hv : FE T X value fv) : FS T X (.AugAssign (.Attribute o f tpos) .Add value pos) (sFAug cs f fv fo) := by
  intro pins s st H D I hq
  refine ps_fldaug ho hv in_add pins s st H D I ?_
  obtain ⟨μ, ρ, σ, hE, hr, hp⟩ := hq
  refine ⟨μ, ρ, σ, hE, hr, hp.xs hE fun x σ1 μ1 vo H1 _ e1 r1 q1 p1 => ?_⟩
  unfold augK1 at p1
  cases ei : insOf σ1 x with
  | none => rw [ei] at p1; exact p1.elim
  | some p =>
    obtain ⟨c, fs⟩ := p
    rw [ei] at p1; dsimp only at p1
    by_cases hcc : cs.contains c = true
    · rw [if_pos hcc] at p1
      obtain ⟨a, dx, vs, rfl, h1, h2⟩ := ins_rep r1 q1 ei
      cases el : fs.lookup f with
      | none => rw [el] at p1; exact p1.elim
      | some y =>
        rw [el] at p1
        cases y with
        | int i =>
          obtain ⟨w, h3, h4⟩ := (look_rep h2).1 _ el
          obtain ⟨k1, k2⟩ := hc c hcc
          rw [hK] at k1 k2
          refine ⟨a, _, dx, vs, w, rfl, h1, k1, k2, h3, μ1, ρ, σ1, hE.mono e1, r1, p1.xs (hE.mono e1) fun z σ2 μ2 vz H2 _ e2 r2 q2 p2 => ?_⟩
          unfold augK3 at p2
          cases z with
          | int j =>
            refine ⟨i, j, zbv h4, zbv q2, ?_⟩
            have q1' := Rep.mono e2 _ _ q1
            cases x with
            | ref n =>
              dsimp only at p2
              cases el2 : σ2[n]? with
              | none => rw [el2] at p2; exact p2.elim
              | some ob =>
                rw [el2] at p2
                cases ob with
                | lst _ => exact p2.elim
                | dic _ => exact p2.elim
                | ins c' fs' =>
                  dsimp only at p2
                  by_cases hc2 : (c' == c && decide (fs'.length < 1000)) = true
                  · rw [if_pos hc2] at p2
                    rw [Bool.and_eq_true, decide_eq_true_eq, beq_iff_eq] at hc2
                    obtain ⟨hcc', hl⟩ := hc2
                    subst hcc'
                    obtain ⟨a', ea, hn, dx', vs', h1', h2'⟩ := r2.at q1' el2
                    cases ea
                    have ex : Ext μ2 H2 μ2 (upd H2 a (.ins (T.ca c') dx' (putF f (.int (i + j)) vs'))) := ext_write (List.mem_of_getElem? hn) h1' (fun _ z => by cases z) (fun _ _ z => by cases z)
                    have wr := r2.write (o := .ins (T.ca c') dx' (putF f (.int (i + j)) vs')) (ob := .ins c' (putD f (.int (i + j)) fs')) hn ⟨dx', _, upd_same, put_rep (by rw [Rep]) (RepF.mono ex h2')⟩
                    exact ⟨dx', vs', h1', by rw [<- h2'.length]; exact hl, p2 _ (.nx st) _ wr.1 wr.2 ((hE.mono e1).mono e2 |>.mono wr.1)⟩
                  · rw [if_neg hc2] at p2; exact p2.elim
            | _ => exact p2.elim
          | _ => exact p2.elim
        | _ => exact p1.elim
    · rw [if_neg hcc] at p1; exact p1.elim
def oDNotIn (y x : D) : M D := fun σ => match keyD y with
  | some k => (match dcOf σ x with
    | some kvs => .ok (.bl (!(findD kvs k).isSome)) σ
    | none => .bad)
  | none => .bad
def rDNotIn : R2 := fun y x H Q => ∃ a o, x = .ref a /\ DGet H a y o /\ Q (.bl (!o.isSome)) H
theorem op_dnotin (hu : X.A.units + 9 < cLine) : OpR X (compareOp .NotIn) rDNotIn := by
  intro pins s st H y x iv u Q I ry rx h
  obtain ⟨a, o, rfl, g, q⟩ := h
  obtain rfl : u = Value.ref a := rx
  exact d_notIn (by omega) I g ry fun s3 I3 => ⟨.bl (!o.isSome), H, I3, rfl, q⟩
theorem snd_dnotin : SndOp T rDNotIn oDNotIn := by
  intro E μ H σ y x u v Q r q p h
  unfold oDNotIn at h
  cases ek : keyD y with
  | none => rw [ek] at h; exact h.elim
  | some k =>
    rw [ek] at h
    dsimp only at h
    cases ed : dcOf σ x with
    | none => rw [ed] at h; exact h.elim
    | some kvs =>
      rw [ed] at h
      obtain ⟨a, vs, rfl, h1, h2⟩ := rel_dc r p ed
      obtain rfl := key_rep q ek
      refine ⟨a, valV vs k, rfl, DGet.k h1, zad.here h r ?_⟩
      rw [Rep]
      rcases find_rep h2 k with ⟨z1, z2⟩ | ⟨d, w, z1, z2, z3⟩
      · rw [z1, z2]; rfl
      · rw [z1, z2]; rfl
def OkB (T : Tb) (P : Program) (w : World) (mg : Str -> Option Value) (base : Heap) (k : Nat) (f : Addr) (ps : List Str) (dv : List Value) (fn : List D -> M D) : Prop :=
  ∃ fd, Binds T.K fd ps [] /\ Binds T.K fd ps dv /\ FnOk P w T.K mg base (CXE P w) k f fd ps (spF T ps.length fn)
structure HasMD (K : PySem.W.Frag) (C : Addr) (x qual : Str) (st : Stmt) (ps : List Str) (dv : List Value) (f : Addr) : Prop where
  ex : ∃ fd, (∃ (oc : Value) (od : Option Addr) (dV kV doc pm : Value) (an : Option Addr) (cdv ct : Value) (osl : Array (Option Value)),
    fd = PySem.W.fnOf x qual (zam st) (zan st) (zao st) dV kV doc pm an cdv ct /\ K.lookup f = some ⟨oc, od, .func fd, osl⟩ /\ PySem.W.codeIn K cdv qual = true) /\ Binds K fd ps [] /\ Binds K fd ps dv
end
section
variable {P : Program} {w : World} {K : PySem.W.Frag} {mg : Str -> Option Value} {base : Heap} {ca : Nat -> Addr}
theorem okB_of {k : Nat} {C f : Addr} {x qual : Str} {st : Stmt} {ps N : List Str} {dv : List Value} {g : Ev -> M Fl} (h : HasMD K C x qual st ps dv f) (S : FnScope N ps (zao st))
    (hb : ∀ (cdv : Value) (A : Around) (outer : List Env) (s : Shared) (H : Hp) (E : XK), Room k (A.deeper (envOfC qual (zao st) s.heap.objs.size f cdv)) -> FSs ⟨K, ca⟩ (cxOf (CXE P w) P w K mg base N qual (zao st) f cdv A outer s H E) (zan st) g) :
    OkB ⟨K, ca⟩ P w mg base (k + 1) f ps dv (run N.length g) := by
  obtain ⟨fd, ⟨oc, od, dV, kV, doc, pm, an, cdv, ct, osl, rfl, lk, hcd⟩, b0, b1⟩ := h.ex
  exact ⟨_, b0, b1, fok lk hcd S (hb cdv)⟩
theorem OkB.hide {T : Tb} {k : Nat} {f : Addr} {ps : List Str} {dv : List Value} {fn : List D -> M D} (h : OkB T P w mg base k f ps dv fn) : OkB T P w mg base k f ps dv (L4.hide fn) := by rw [zbt]; exact h
theorem OkB.frz {T : Tb} {k : Nat} {f : Addr} {ps : List Str} {dv : List Value} {fn : List D -> M D} (h : OkB T P w mg base k f ps dv fn) : OkB T P w mg base k f ps dv (fun ds => L4.frz (fn ds)) := by
  obtain ⟨fd, h1, h2, h3⟩ := h
  exact ⟨fd, h1, h2, fok_frz h3⟩
theorem mkMD {C f t : Addr} {x qual : Str} {st : Stmt} {ps : List Str} {dv : List Value} {oc toc : Value} {od an tod : Option Addr} {osl tsl : Array (Option Value)} {kV doc pm cdv ct : Value} {tn : Nat}
    (hb : ∀ (t : Addr) (kV doc pm : Value) (an : Option Addr) (cdv ct : Value) (s : Shared) (o : Obj) (n : Nat) (us : List Value), s.heap.get? t = some o -> o.data = .seq dv.toArray n -> ((us ++ []).length = ps.length -> BindsTo s (PySem.W.fnOf x qual (zam st) (zan st) (zao st) (.ref t) kV doc pm an cdv ct) ⟨us, []⟩ (ps.zip (us ++ []))) /\
      ((us ++ dv).length = ps.length -> BindsTo s (PySem.W.fnOf x qual (zam st) (zan st) (zao st) (.ref t) kV doc pm an cdv ct) ⟨us, []⟩ (ps.zip (us ++ dv))))
    (l : K.lookup f = some ⟨oc, od, .func (PySem.W.fnOf x qual (zam st) (zan st) (zao st) (.ref t) kV doc pm an cdv ct), osl⟩)
    (c : PySem.W.codeIn K cdv qual = true) (d : K.lookup t = some ⟨toc, tod, .seq dv.toArray tn, tsl⟩) : HasMD K C x qual st ps dv f :=
  ⟨⟨_, ⟨oc, od, _, kV, doc, pm, an, cdv, ct, osl, rfl, l, c⟩, fun s us KX hl => (hb t kV doc pm an cdv ct s _ tn us (KX _ _ d) rfl).1 hl, fun s us KX hl => (hb t kV doc pm an cdv ct s _ tn us (KX _ _ d) rfl).2 hl⟩⟩
end
section
variable {T : Tb} {X : Cx}
theorem fe_mthB {pl : Sem Bool} {k c : Nat} {fn : List D -> M D} {ps : List Str} {dv : List Value} {m : Str} {o e : Expr} {es : List Expr} {f : Ev -> M D} {fs : Ev -> M (List D)} {pos apos : Pos} {fa : Addr} (hK : T.K = X.K) (he : FE T X o f) (hC : Cls T.K (T.ca c)) (hM : Meth T.K (T.ca c) m fa)
    (h : OkB T X.prog X.w X.mg X.base k fa ps dv fn) (hr : Room k X.A) (ha : FA T X (e :: es) fs)
    (hst : starEach (e :: es) X.env = (false, eval e X.env) :: starEach es X.env := by rfl) (hpl : (backTo pos (starEach es X.env)).any (·.1) = false := by rfl)
    (ht : eval (.Call (.Attribute o m apos) (e :: es) [] pos) X.env = (do
      let ov <- eval o X.env
      standAt apos.atName
      let (f, first) <- holding [ov] (getMethod ov m pl)
      callWith pos f first (backTo pos (starEach (e :: es) X.env)) (backToKw pos (keywordEach [] X.env))) := by rfl) :
    FE T X (.Call (.Attribute o m apos) (e :: es) [] pos) (eMth [(c, fn)] ps.length m f fs) := by
  intro pins s st H Q I hq
  obtain ⟨μ, ρ, σ, hE, hr', hp⟩ := hq
  have hE' := hE
  refine PySem.W.methodCall_KW (pl := pl) (thn (he pins s st H (fun x H1 => ∃ a dx vs, x = .ref a /\ H1 a = some (.ins (T.ca c) dx vs) /\ vs.lookup m = none /\ tL T X fs st H1 fun us H2 => spF T ps.length fn (x :: (us ++ [])) H2 Q (XE X st)) I ⟨μ, ρ, σ, hE, hr', hp.bind fun d σ1 μ1 v H1 _ e1 r1 q1 p1 => ?_⟩) fun u s1 ⟨x, H1, I1, rx, a, dx, vs, ex, ea, en, q⟩ => ?_) ht
  · unfold mthK at p1
    cases ei : insOf σ1 d with
    | none => rw [ei] at p1; exact p1.elim
    | some z =>
      obtain ⟨c', gs⟩ := z
      rw [ei] at p1; dsimp only at p1
      by_cases hcc : c = c'
      · subst hcc
        have el : lkM [(c, fn)] c = some fn := by unfold lkM; rw [if_pos (beq_self_eq_true c)]
        cases en : gs.lookup m with
        | some y => rw [el, en] at p1; exact p1.elim
        | none =>
          rw [el, en] at p1; dsimp only at p1
          obtain ⟨a, dx, vs, rfl, h1, h2⟩ := ins_rep r1 q1 ei
          refine ⟨a, dx, vs, rfl, h1, (look_rep h2).2 en, μ1, ρ, σ1, hE'.mono e1, r1, p1.bind fun ds σ2 μ2 us H2 _ e2 r2 q2 p2 => ?_⟩
          unfold mthK2 at p2
          by_cases hl : ds.length + 1 = ps.length
          · rw [if_pos hl] at p2
            exact ⟨μ2, σ2, d :: ds, zaf.cons (Rep.mono e2 _ _ q1) (by rw [List.append_nil]; exact q2), by rw [List.length_cons]; exact hl, r2, p2⟩
          · rw [if_neg hl] at p2; exact p2.elim
      · have el : lkM [(c, fn)] c' = none := by unfold lkM; rw [if_neg (by simpa using hcc)]; rfl
        rw [el] at p1; exact p1.elim
  · subst ex
    obtain rfl : u = Value.ref a := rx
    obtain ⟨fd, hb, _, hF⟩ := h
    rw [hK] at hC hM hF hb
    refine getmeth_ok I1 ea hC hM en ?_
    refine PySem.W.callWith_K (first := [.ref a]) (h₀ := X.base) I.ok.mod.kin hM.kp (thn (ha pos pins s1 st H1 _ I1 q) fun us s2 ⟨vs, H2, I2, r, q2⟩ => ⟨I2.kIn, ?_⟩) hst hpl
    exact run_fnX (us := .ref a :: us) (vs := .ref a :: vs) hF hr hb .nil I2 (.cons rfl r) q2
end
end L4
set_option maxHeartbeats 0
namespace K16
open PySem PySem.Spec PyProof.Rows L2 L4
def top (i : Nat) : Stmt := PySem.Challenge.pw_sidebook_k16_whole_coin_is_kept.main.body.getD i (.Pass ⟨0, 0, 0, 0⟩)
structure Txt (K : PySem.W.Frag) (mg : Str -> Option Value) (ca : Nat -> Addr) : Prop where
  f__law_cell_at : zaa K mg "_law_cell_at" (top 55) ["_law_script", "_law_k"]
  f__law_mixed : zaa K mg "_law_mixed" (top 56) ["_law_cell", "_law_k"]
  f__law_pots : zaa K mg "_law_pots" (top 58) ["_law_script"]
  f_is_whole : zaa K mg "is_whole" (top 8) ["thing"]
  f_is_between : zaa K mg "is_between" (top 9) ["thing", "least", "most"]
  f_is_hand : zaa K mg "is_hand" (top 11) ["thing"]
  f_makes_a_pot : zaa K mg "makes_a_pot" (top 48) ["thing"]
  f_checked_pots : zaa K mg "checked_pots" (top 49) ["pots"]
  f_Claim___init__ : HasM K (ca 4) "__init__" "Claim.__init__" (zcb (top 41) 0) ["self", "whole"] (ca 9)
  f_whole_of : zaa K mg "whole_of" (top 50) ["made"]
  f_Book___init__ : HasM K (ca 8) "__init__" "Book.__init__" (zcb (top 53) 0) ["self", "pots"] (ca 22)
  f__law_small_stand : zaa K mg "_law_small_stand" (top 57) ["_law_cell", "_law_whole"]
  f_Book_next_day : HasM K (ca 8) "next_day" "Book.next_day" (zcb (top 53) 3) ["self"] (ca 25)
  f_Book_check_pot : HasM K (ca 8) "check_pot" "Book.check_pot" (zcb (top 53) 1) ["self", "pot"] (ca 23)
  f_is_word : zaa K mg "is_word" (top 12) ["thing"]
  f_Book_show : HasM K (ca 8) "show" "Book.show" (zcb (top 53) 4) ["self", "pot", "word"] (ca 26)
  f_is_side : zaa K mg "is_side" (top 10) ["thing"]
  f_check_side : zaa K mg "check_side" (top 52) ["side"]
  f_deals : zaa K mg "deals" (top 32) ["one"]
  f_is_day : zaa K mg "is_day" (top 13) ["thing"]
  f_is_amount : zaa K mg "is_amount" (top 15) ["thing"]
  f_is_tie : zaa K mg "is_tie" (top 26) ["thing"]
  f_are_ties : zaa K mg "are_ties" (top 28) ["thing"]
  f_are_shares : zaa K mg "are_shares" (top 27) ["thing"]
  f_is_number : zaa K mg "is_number" (top 14) ["thing"]
  f_is_stand : zaa K mg "is_stand" (top 29) ["thing"]
  f_is_stand_of : zaa K mg "is_stand_of" (top 33) ["thing", "coin"]
  f_other_side : zaa K mg "other_side" (top 17) ["side"]
  f_is_pot : zaa K mg "is_pot" (top 16) ["thing"]
  f_is_of_a_side : zaa K mg "is_of_a_side" (top 37) ["thing"]
  f_is_thing : zaa K mg "is_thing" (top 38) ["thing"]
  f_is_agreed : zaa K mg "is_agreed" (top 51) ["pot", "side", "stand", "agreement"]
  f_stand : HasFnD K mg "stand" (top 30) ["number", "shares", "ties"] [.none]
  f_first : zaa K mg "first" (top 31) ["left", "right"]
  f_Book_may_lie : HasM K (ca 8) "may_lie" "Book.may_lie" (zcb (top 53) 5) ["self", "pot", "side", "stand", "agreement"] (ca 27)
  f_Laid___init__ : HasM K (ca 6) "__init__" "Laid.__init__" (zcb (top 43) 0) ["self", "whole", "side", "stand", "day", "wait"] (ca 13)
  f_Book_lay : HasMD K (ca 8) "lay" "Book.lay" (zcb (top 53) 6) ["self", "pot", "side", "stand", "agreement"] [.none] (ca 28)
  f_Held_told : HasM K (ca 5) "told" "Held.told" (zcb (top 42) 0) ["self"] (ca 10)
  f_Laid_told : HasM K (ca 6) "told" "Laid.told" (zcb (top 43) 1) ["self"] (ca 14)
  f_Taken_told : HasM K (ca 7) "told" "Taken.told" (zcb (top 44) 1) ["self"] (ca 19)
  f_Book_told : HasM K (ca 8) "told" "Book.told" (zcb (top 53) 8) ["self", "pot"] (ca 30)
  f_Held_may_strike : HasM K (ca 5) "may_strike" "Held.may_strike" (zcb (top 42) 2) ["self", "pot", "side", "day", "thing"] (ca 12)
  f_Laid_waits : HasM K (ca 6) "waits" "Laid.waits" (zcb (top 43) 2) ["self", "day"] (ca 15)
  f_Laid_may_strike : HasM K (ca 6) "may_strike" "Laid.may_strike" (zcb (top 43) 4) ["self", "pot", "side", "day", "thing"] (ca 17)
  f_Taken_may_strike : HasM K (ca 7) "may_strike" "Taken.may_strike" (zcb (top 44) 3) ["self", "pot", "side", "day", "thing"] (ca 21)
  f_Taken___init__ : HasM K (ca 7) "__init__" "Taken.__init__" (zcb (top 44) 0) ["self", "whole", "side"] (ca 18)
  f_Book_strike : HasM K (ca 8) "strike" "Book.strike" (zcb (top 53) 7) ["self", "pot", "side", "thing"] (ca 29)
  f__law_try : zaa K mg "_law_try" (top 59) ["_law_book", "_law_pots_here", "_law_cell"]
  f_Held_comes : HasM K (ca 5) "comes" "Held.comes" (zcb (top 42) 1) ["self", "day", "shown"] (ca 11)
  f_shown_in_time : zaa K mg "shown_in_time" (top 35) ["tie", "shown"]
  f_side_due : zaa K mg "side_due" (top 40) ["tie", "day", "shown"]
  f_with_more : zaa K mg "with_more" (top 34) ["shares", "side", "amount"]
  f_Laid_comes : HasM K (ca 6) "comes" "Laid.comes" (zcb (top 43) 3) ["self", "day", "shown"] (ca 16)
  f_Taken_comes : HasM K (ca 7) "comes" "Taken.comes" (zcb (top 44) 2) ["self", "day", "shown"] (ca 20)
  f_Book_due_of : HasM K (ca 8) "due_of" "Book.due_of" (zcb (top 53) 10) ["self", "pot"] (ca 32)
  f_Book_coin_of : HasM K (ca 8) "coin_of" "Book.coin_of" (zcb (top 53) 11) ["self", "hand"] (ca 33)
  f__law_kept : zaa K mg "_law_kept" (top 60) ["_law_book", "_law_pots_here", "_law_ahead"]
  f_law : zaa K mg "law" (top 61) ["_law_script"]
  n_all : mg "all" = none
  n_bool : mg "bool" = none
  n_enumerate : mg "enumerate" = none
  n_int : mg "int" = none
  n_isinstance : mg "isinstance" = none
  n_len : mg "len" = none
  n_list : mg "list" = none
  n_min : mg "min" = none
  n_range : mg "range" = none
  n_set : mg "set" = none
  n_str : mg "str" = none
  n_sum : mg "sum" = none
  n_tuple : mg "tuple" = none
  c_MOST_AMOUNT : ∃ t, mg "MOST_AMOUNT" = some (.int 1000000000000 t)
  c_MOST_COIN : ∃ t, mg "MOST_COIN" = some (.int 1000000000000 t)
  c_MOST_DAY : ∃ t, mg "MOST_DAY" = some (.int 1000000 t)
  c_MOST_HAND : ∃ t, mg "MOST_HAND" = some (.int 3 t)
  c_MOST_NUMBER : ∃ t, mg "MOST_NUMBER" = some (.int 1000000 t)
  c_MOST_POT : ∃ t, mg "MOST_POT" = some (.int 2 t)
  c_MOST_SHARE : ∃ t, mg "MOST_SHARE" = some (.int 2000000000000 t)
  c_MOST_TIES : ∃ t, mg "MOST_TIES" = some (.int 6 t)
  c_MOST_WAIT : ∃ t, mg "MOST_WAIT" = some (.int 100 t)
  c_MOST_WORD : ∃ t, mg "MOST_WORD" = some (.int 59 t)
  m_BookError : mg "BookError" = some (.ref (ca 0))
  x_BookError : PySem.W.excIn K (ca 0) veB "ValueError.__new__" = true
  m_NoStand : mg "NoStand" = some (.ref (ca 1))
  x_NoStand : PySem.W.excIn K (ca 1) veB "ValueError.__new__" = true
  m_NoDeed : mg "NoDeed" = some (.ref (ca 2))
  x_NoDeed : PySem.W.excIn K (ca 2) veB "ValueError.__new__" = true
  e_BookError_NoDeed : PySem.W.exmOne K (.ref (ca 0)) (.ref (ca 2)) = some false
  e_NoDeed_NoDeed : PySem.W.exmOne K (.ref (ca 2)) (.ref (ca 2)) = some true
  e_NoStand_NoDeed : PySem.W.exmOne K (.ref (ca 1)) (.ref (ca 2)) = some false
  cl_Book : L2.Cls K (ca 8)
  na_Book_pots : L2.zab K (ca 8) "pots"
  na_Book_day : L2.zab K (ca 8) "day"
  cl_Laid : L2.Cls K (ca 6)
  na_Laid_day : L2.zab K (ca 6) "day"
  cl_Taken : L2.Cls K (ca 7)
  na_Taken_whole : L2.zab K (ca 7) "whole"
  na_Laid_whole : L2.zab K (ca 6) "whole"
  cl_Held : L2.Cls K (ca 5)
  na_Held_whole : L2.zab K (ca 5) "whole"
  cl_Claim : L2.Cls K (ca 4)
  na_Claim_whole : L2.zab K (ca 4) "whole"
  m_Held : mg "Held" = some (.ref (ca 5))
  mk_Held : L2.Mk K (ca 5) (ca 9)
  na_Book_claims : L2.zab K (ca 8) "claims"
  na_Book_shown : L2.zab K (ca 8) "shown"
  m_Book : mg "Book" = some (.ref (ca 8))
  mk_Book : L2.Mk K (ca 8) (ca 22)
  me_Book_next_day : L2.Meth K (ca 8) "next_day" (ca 25)
  me_Book_check_pot : L2.Meth K (ca 8) "check_pot" (ca 23)
  me_Book_show : L2.Meth K (ca 8) "show" (ca 26)
  ik_Book : L4.InK K (ca 8)
  io_Book_Held : PySem.W.kitOne K (.ref (ca 8)) (.ref (ca 5)) = some false
  ik_Taken : L4.InK K (ca 7)
  io_Taken_Held : PySem.W.kitOne K (.ref (ca 7)) (.ref (ca 5)) = some false
  ik_Laid : L4.InK K (ca 6)
  io_Laid_Held : PySem.W.kitOne K (.ref (ca 6)) (.ref (ca 5)) = some false
  ik_Held : L4.InK K (ca 5)
  io_Held_Held : PySem.W.kitOne K (.ref (ca 5)) (.ref (ca 5)) = some true
  me_Book_may_lie : L2.Meth K (ca 8) "may_lie" (ca 27)
  m_Claim : mg "Claim" = some (.ref (ca 4))
  us_Claim___init__ : PySem.W.specialIn K (.ref (ca 4)) (Str.ofString "__getattribute__") = some (some (.builtin "type.__getattribute__"))
  ur_Claim___init__ : PySem.W.readsIn K (ca 4) (.type "type") = true
  uf_Claim___init__ : PySem.W.findCls K (.ref (ca 4)) (.type "type") "__init__" = some (.val (.ref (ca 9)))
  uk_Claim___init__ : PySem.W.keepIn K (.ref (ca 9)) = true
  na_Taken_side : L2.zab K (ca 7) "side"
  na_Laid_side : L2.zab K (ca 6) "side"
  na_Laid_stand : L2.zab K (ca 6) "stand"
  na_Laid_wait : L2.zab K (ca 6) "wait"
  m_Laid : mg "Laid" = some (.ref (ca 6))
  mk_Laid : L2.Mk K (ca 6) (ca 13)
  me_Book_lay : L2.Meth K (ca 8) "lay" (ca 28)
  me_Taken_told : L2.Meth K (ca 7) "told" (ca 19)
  me_Laid_told : L2.Meth K (ca 6) "told" (ca 14)
  me_Held_told : L2.Meth K (ca 5) "told" (ca 10)
  me_Book_told : L2.Meth K (ca 8) "told" (ca 30)
  me_Laid_waits : L2.Meth K (ca 6) "waits" (ca 15)
  me_Taken_may_strike : L2.Meth K (ca 7) "may_strike" (ca 21)
  me_Laid_may_strike : L2.Meth K (ca 6) "may_strike" (ca 17)
  me_Held_may_strike : L2.Meth K (ca 5) "may_strike" (ca 12)
  m_Taken : mg "Taken" = some (.ref (ca 7))
  mk_Taken : L2.Mk K (ca 7) (ca 18)
  me_Book_strike : L2.Meth K (ca 8) "strike" (ca 29)
  me_Taken_comes : L2.Meth K (ca 7) "comes" (ca 20)
  me_Laid_comes : L2.Meth K (ca 6) "comes" (ca 16)
  me_Held_comes : L2.Meth K (ca 5) "comes" (ca 11)
  me_Book_due_of : L2.Meth K (ca 8) "due_of" (ca 32)
  me_Book_coin_of : L2.Meth K (ca 8) "coin_of" (ca 33)
section
variable {P : Program} {w : World} {K : PySem.W.Frag} {mg : Str -> Option Value} {base : Heap} {ca : Nat -> Addr}
abbrev s__law_cell_at : Stmt := top 55
noncomputable def g__law_cell_at : Ev -> M Fl :=
  (zct (sIf (eT (zap oLt (zar 1) (zaq oLen (zah (zar 0) zai)))) (zcs (zap oIx (zar 0) (zar 1))) sNil)
  (zcs (eC (.int 0))))
noncomputable def f__law_cell_at : List D -> M D := hide fun ds => frz (run 2 g__law_cell_at ds)
theorem sc__law_cell_at : FnScope ["_law_script", "_law_k"] ["_law_script", "_law_k"] (zao s__law_cell_at) := ⟨rfl, rfl, rfl, by decide +kernel, rfl, by decide +kernel, by decide +kernel⟩
theorem bd__law_cell_at : ∀ (kV doc pm : Value) (an : Option Addr) (cdv ct : Value) (us : List Value), us.length = (["_law_script", "_law_k"] : List Str).length -> bindArgs (PySem.W.fnOf "_law_cell_at" "_law_cell_at" (zam s__law_cell_at) (zan s__law_cell_at) (zao s__law_cell_at) .none kV doc pm an cdv ct) ⟨us, []⟩ = pure ((["_law_script", "_law_k"] : List Str).zip us) :=
  fun _ _ _ _ _ _ us hl => match us, hl with | [_, _], _ => rfl
theorem ok__law_cell_at (Xt : Txt K mg ca) : OkF ⟨K, ca⟩ P w mg base 1 "_law_cell_at" ["_law_script", "_law_k"] f__law_cell_at :=
  OkF.hide (OkF.frz (zck Xt.f__law_cell_at sc__law_cell_at fun _ _ _ _ _ _ _ hr =>
    (zbo (zbl (zbr op_lt snd_lt (zbf 1) (zav zal (zdk rfl) rfl Xt.n_len PySem.boot_len (zas (zbf 0) zat)) (zcd _)) (zbq (zbm (zba zbw (zdj rfl) (zbf 0) (zbf 1) (fun _ _ => rfl)))) zbp)
    (zbq (zbm zaz)))))
abbrev s__law_mixed : Stmt := top 56
noncomputable def g__law_mixed : Ev -> M Fl :=
  (zct (sIf (eT (zap oEq (zap oMod (zar 0) (eC (.int 2))) (eC (.int 0)))) (zcs (zap oBand (zap oShr (zap oDiv (zar 0) (eC (.int 2))) (zap oMul (eC (.int 41)) (zar 1))) (eC (.int 2199023255551)))) sNil)
  (zct (sSet 2 (zap oMod (zap oMul (zap oAdd (zap oAdd (zap oMod (zar 0) (eC (.int 2147483647))) (zap oMul (eC (.int 7919)) (zar 1))) (eC (.int 1))) (eC (.int 48271))) (eC (.int 2147483647))))
  (zct (sSet 2 (zap oMod (zap oMul (zar 2) (zap oAdd (zap oDiv (zar 2) (eC (.int 1009))) (eC (.int 69621)))) (eC (.int 2147483647))))
  (zcs (zap oMod (zap oMul (zar 2) (zap oAdd (zap oAdd (zap oDiv (zar 2) (eC (.int 4099))) (eC (.int 16807))) (zar 1))) (eC (.int 2147483629)))))))
noncomputable def f__law_mixed : List D -> M D := hide fun ds => frz (run 3 g__law_mixed ds)
theorem sc__law_mixed : FnScope ["_law_cell", "_law_k", "_law_number"] ["_law_cell", "_law_k"] (zao s__law_mixed) := ⟨rfl, rfl, rfl, by decide +kernel, rfl, by decide +kernel, by decide +kernel⟩
theorem bd__law_mixed : ∀ (kV doc pm : Value) (an : Option Addr) (cdv ct : Value) (us : List Value), us.length = (["_law_cell", "_law_k"] : List Str).length -> bindArgs (PySem.W.fnOf "_law_mixed" "_law_mixed" (zam s__law_mixed) (zan s__law_mixed) (zao s__law_mixed) .none kV doc pm an cdv ct) ⟨us, []⟩ = pure ((["_law_cell", "_law_k"] : List Str).zip us) :=
  fun _ _ _ _ _ _ us hl => match us, hl with | [_, _], _ => rfl
theorem ok__law_mixed (Xt : Txt K mg ca) : OkF ⟨K, ca⟩ P w mg base 1 "_law_mixed" ["_law_cell", "_law_k"] f__law_mixed :=
  OkF.hide (OkF.frz (zck Xt.f__law_mixed sc__law_mixed fun _ _ _ _ _ _ _ hr =>
    (zbo (zbl (zbr (zcm (hu9 hr)) sndD (zbc zco zdl (zbf 0) zaz) zaz (zcd _)) (zbq (zbm (zbc op_and snd_band (zbc op_shr snd_shr (zbc zcn zdi (zbf 0) zaz) (zbc op_mul snd_mul zaz (zbf 1))) zaz))) zbp)
    (zbo (zbn (i := 2) sc__law_mixed.nd rfl (Or.inl rfl) (zbc zco zdl (zbc op_mul snd_mul (zbc (zcl rfl) sndD (zbc (zcl rfl) sndD (zbc zco zdl (zbf 0) zaz) (zbc op_mul snd_mul zaz (zbf 1))) zaz) zaz) zaz))
    (zbo (zbn (i := 2) sc__law_mixed.nd rfl (Or.inl rfl) (zbc zco zdl (zbc op_mul snd_mul (zbf 2) (zbc (zcl rfl) sndD (zbc zcn zdi (zbf 2) zaz) zaz)) zaz))
    (zbq (zbm (zbc zco zdl (zbc op_mul snd_mul (zbf 2) (zbc (zcl rfl) sndD (zbc (zcl rfl) sndD (zbc zcn zdi (zbf 2) zaz) zaz) (zbf 1))) zaz))))))))
abbrev s__law_pots : Stmt := top 58
noncomputable def g__law_pots : Ev -> M Fl :=
  (zct (sSet 1 (eLst zai))
  (zct (sFor (srcR (zap oAdd (eC (.int 1)) (zap oMod (eFn 2 f__law_cell_at [] (zah (zar 0) (zah (eC (.int 0)) zai))) (eC (.int 3))))) (tgN 2) (zct (sSet 3 (eFn 2 f__law_mixed [] (zah (eFn 2 f__law_cell_at [] (zah (zar 0) (zah (zap oAdd (eC (.int 1)) (zar 2)) zai))) (zah (eC (.int 30)) zai))))
  (zct (sSet 4 (zap oIx (eLv (zah (zap oMod (zap oDiv (zar 3) (eC (.int 4))) (eC (.int 41))) (zah (zap oMod (zap oDiv (zar 3) (eC (.int 4))) (zap oPow (eC (.int 10)) (eC (.int 6)))) zai))) (zap oDiv (zap oMod (zap oDiv (zar 3) (eC (.int 3))) (eC (.int 3))) (eC (.int 2)))))
  (sExp (eMeth oAppend (zar 1) (zah (eTup (zah (zap oMod (zar 3) (eC (.int 2))) (zah (zap oAdd (eC (.int 2)) (zap oMod (zap oDiv (zar 3) (eC (.int 2))) (eC (.int 2)))) (zah (zar 4) (zah (zap oMod (zap oDiv (zar 3) (eC (.int 164))) (eC (.int 21))) (zah (zap oAdd (eC (.int 1)) (zap oMod (zap oDiv (zar 3) (eC (.int 4000))) (eC (.int 6)))) zai)))))) zai))))))
  (zcs (zar 1))))
noncomputable def f__law_pots : List D -> M D := hide fun ds => frz (run 5 g__law_pots ds)
theorem sc__law_pots : FnScope ["_law_script", "_law_pots_here", "_law_k", "_law_number", "_law_coin"] ["_law_script"] (zao s__law_pots) := ⟨rfl, rfl, rfl, by decide +kernel, rfl, by decide +kernel, by decide +kernel⟩
theorem bd__law_pots : ∀ (kV doc pm : Value) (an : Option Addr) (cdv ct : Value) (us : List Value), us.length = (["_law_script"] : List Str).length -> bindArgs (PySem.W.fnOf "_law_pots" "_law_pots" (zam s__law_pots) (zan s__law_pots) (zao s__law_pots) .none kV doc pm an cdv ct) ⟨us, []⟩ = pure ((["_law_script"] : List Str).zip us) :=
  fun _ _ _ _ _ _ us hl => match us, hl with | [_], _ => rfl
theorem ok__law_pots (Xt : Txt K mg ca) : OkF ⟨K, ca⟩ P w mg base 2 "_law_pots" ["_law_script"] f__law_pots :=
  OkF.hide (OkF.frz (zck Xt.f__law_pots sc__law_pots fun _ _ _ _ _ _ _ hr =>
    (zbo (zbn (i := 1) sc__law_pots.nd rfl (Or.inl rfl) (fe_lst zat))
    (zbo (fs_for zcp rfl (fi_range rfl Xt.n_range (zbc (zcl rfl) sndD zaz (zbc zco zdl (zaw (ok__law_cell_at Xt) rfl (hr.mono (by decide)) rfl (zas (zbf 0) (zas zaz zat))) zaz))) (zbg (i := 2) sc__law_pots.nd rfl (Or.inl rfl)) (zbo (zbn (i := 3) sc__law_pots.nd rfl (Or.inl rfl) (zaw (ok__law_mixed Xt) rfl (hr.mono (by decide)) rfl (zas (zaw (ok__law_cell_at Xt) rfl (hr.mono (by decide)) rfl (zas (zbf 0) (zas (zbc (zcl rfl) sndD zaz (zbf 2)) zat))) (zas zaz zat))))
    (zbo (zbn (i := 4) sc__law_pots.nd rfl (Or.inl rfl) (zba zbw (zdj rfl) (fe_lv (zas (zbc zco zdl (zbc zcn zdi (zbf 3) zaz) zaz) (zas (zbc zco zdl (zbc zcn zdi (zbf 3) zaz) (zbc op_pow snd_pow zaz zaz)) zat))) (zbc zcn zdi (zbc zco zdl (zbc zcn zdi (zbf 3) zaz) zaz) zaz) (fun _ _ => rfl)))
    (zbq (zbk (fe_meth PySem.F.plainAttrs_list PySem.F.slot_list_append PySem.F.type_list_append mt_append snd_append (zbf 1) (zas (zbe (zas (zbc zco zdl (zbf 3) zaz) (zas (zbc (zcl rfl) sndD zaz (zbc zco zdl (zbc zcn zdi (zbf 3) zaz) zaz)) (zas (zbf 4) (zas (zbc zco zdl (zbc zcn zdi (zbf 3) zaz) zaz) (zas (zbc (zcl rfl) sndD zaz (zbc zco zdl (zbc zcn zdi (zbf 3) zaz) zaz)) zat)))))) zat)))))))
    (zbq (zbm (zbf 1)))))))
abbrev s_is_whole : Stmt := top 8
noncomputable def g_is_whole : Ev -> M Fl :=
  (zcs (eAnd (eUn (oIsB .int) (zar 0)) (eNot (eUn (oIsB .bool) (zar 0)))))
noncomputable def f_is_whole : List D -> M D := hide fun ds => frz (run 1 g_is_whole ds)
theorem sc_is_whole : FnScope ["thing"] ["thing"] (zao s_is_whole) := ⟨rfl, rfl, rfl, by decide +kernel, rfl, by decide +kernel, by decide +kernel⟩
theorem bd_is_whole : ∀ (kV doc pm : Value) (an : Option Addr) (cdv ct : Value) (us : List Value), us.length = (["thing"] : List Str).length -> bindArgs (PySem.W.fnOf "is_whole" "is_whole" (zam s_is_whole) (zan s_is_whole) (zao s_is_whole) .none kV doc pm an cdv ct) ⟨us, []⟩ = pure ((["thing"] : List Str).zip us) :=
  fun _ _ _ _ _ _ us hl => match us, hl with | [_], _ => rfl
theorem ok_is_whole (Xt : Txt K mg ca) : OkF ⟨K, ca⟩ P w mg base 1 "is_whole" ["thing"] f_is_whole :=
  OkF.hide (OkF.frz (zck Xt.f_is_whole sc_is_whole fun _ _ _ _ _ _ _ hr =>
    (zbq (zbm (zau (fe_isB .int (zbf 0) rfl Xt.n_isinstance rfl Xt.n_int boot_int) (fe_one (fe_not (fe_isB .bool (zbf 0) rfl Xt.n_isinstance rfl Xt.n_bool boot_bool))))))))
abbrev s_is_between : Stmt := top 9
noncomputable def g_is_between : Ev -> M Fl :=
  (zcs (eAnd (eFn 1 f_is_whole [] (zah (zar 0) zai)) (eChain oLe oLe (zar 1) (zar 0) (zar 2))))
noncomputable def f_is_between : List D -> M D := hide fun ds => frz (run 3 g_is_between ds)
theorem sc_is_between : FnScope ["thing", "least", "most"] ["thing", "least", "most"] (zao s_is_between) := ⟨rfl, rfl, rfl, by decide +kernel, rfl, by decide +kernel, by decide +kernel⟩
theorem bd_is_between : ∀ (kV doc pm : Value) (an : Option Addr) (cdv ct : Value) (us : List Value), us.length = (["thing", "least", "most"] : List Str).length -> bindArgs (PySem.W.fnOf "is_between" "is_between" (zam s_is_between) (zan s_is_between) (zao s_is_between) .none kV doc pm an cdv ct) ⟨us, []⟩ = pure ((["thing", "least", "most"] : List Str).zip us) :=
  fun _ _ _ _ _ _ us hl => match us, hl with | [_, _, _], _ => rfl
theorem zcj (Xt : Txt K mg ca) : OkF ⟨K, ca⟩ P w mg base 2 "is_between" ["thing", "least", "most"] f_is_between :=
  OkF.hide (OkF.frz (zck Xt.f_is_between sc_is_between fun _ _ _ _ _ _ _ hr =>
    (zbq (zbm (zau (zaw (ok_is_whole Xt) rfl (hr.mono (by decide)) rfl (zas (zbf 0) zat)) (fe_one (fe_chain op_le snd_le op_le snd_le (zbf 1) (zbf 0) (zbf 2))))))))
abbrev s_is_hand : Stmt := top 11
noncomputable def g_is_hand : Ev -> M Fl :=
  (zcs (eFn 3 f_is_between [] (zah (zar 0) (zah (eC (.int 0)) (zah (eC (.int 3)) zai)))))
noncomputable def f_is_hand : List D -> M D := hide fun ds => frz (run 1 g_is_hand ds)
theorem sc_is_hand : FnScope ["thing"] ["thing"] (zao s_is_hand) := ⟨rfl, rfl, rfl, by decide +kernel, rfl, by decide +kernel, by decide +kernel⟩
theorem bd_is_hand : ∀ (kV doc pm : Value) (an : Option Addr) (cdv ct : Value) (us : List Value), us.length = (["thing"] : List Str).length -> bindArgs (PySem.W.fnOf "is_hand" "is_hand" (zam s_is_hand) (zan s_is_hand) (zao s_is_hand) .none kV doc pm an cdv ct) ⟨us, []⟩ = pure ((["thing"] : List Str).zip us) :=
  fun _ _ _ _ _ _ us hl => match us, hl with | [_], _ => rfl
theorem ok_is_hand (Xt : Txt K mg ca) : OkF ⟨K, ca⟩ P w mg base 3 "is_hand" ["thing"] f_is_hand :=
  OkF.hide (OkF.frz (zck Xt.f_is_hand sc_is_hand fun _ _ _ _ _ _ _ hr =>
    (zbq (zbm (zaw (zcj Xt) rfl (hr.mono (by decide)) rfl (zas (zbf 0) (zas zaz (zas (zay (u := .int 3 (Xt.c_MOST_HAND).choose) rfl (Xt.c_MOST_HAND).choose_spec ⟨_, rfl⟩) zat))))))))
abbrev s_makes_a_pot : Stmt := top 48
noncomputable def g_makes_a_pot : Ev -> M Fl :=
  (zcs (eAnd (eUn (oIsB .tuple) (zar 0)) (eAnd (zap oEq (zaq oLen (zah (zar 0) zai)) (eC (.int 5))) (eAnd (eFn 1 f_is_hand [] (zah (zap oIx (zar 0) (eC (.int 0))) zai)) (eAnd (eFn 1 f_is_hand [] (zah (zap oIx (zar 0) (eC (.int 1))) zai)) (eAnd (zap oNe (zap oIx (zar 0) (eC (.int 0))) (zap oIx (zar 0) (eC (.int 1)))) (eAnd (eFn 3 f_is_between [] (zah (zap oIx (zar 0) (eC (.int 2))) (zah (eC (.int 0)) (zah (eC (.int 1000000000000)) zai)))) (eAnd (eFn 3 f_is_between [] (zah (zap oIx (zar 0) (eC (.int 3))) (zah (eC (.int 0)) (zah (eC (.int 1000000000000)) zai)))) (eFn 3 f_is_between [] (zah (zap oIx (zar 0) (eC (.int 4))) (zah (eC (.int 1)) (zah (eC (.int 100)) zai))))))))))))
noncomputable def f_makes_a_pot : List D -> M D := hide fun ds => frz (run 1 g_makes_a_pot ds)
theorem sc_makes_a_pot : FnScope ["thing"] ["thing"] (zao s_makes_a_pot) := ⟨rfl, rfl, rfl, by decide +kernel, rfl, by decide +kernel, by decide +kernel⟩
theorem bd_makes_a_pot : ∀ (kV doc pm : Value) (an : Option Addr) (cdv ct : Value) (us : List Value), us.length = (["thing"] : List Str).length -> bindArgs (PySem.W.fnOf "makes_a_pot" "makes_a_pot" (zam s_makes_a_pot) (zan s_makes_a_pot) (zao s_makes_a_pot) .none kV doc pm an cdv ct) ⟨us, []⟩ = pure ((["thing"] : List Str).zip us) :=
  fun _ _ _ _ _ _ us hl => match us, hl with | [_], _ => rfl
theorem ok_makes_a_pot (Xt : Txt K mg ca) : OkF ⟨K, ca⟩ P w mg base 4 "makes_a_pot" ["thing"] f_makes_a_pot :=
  OkF.hide (OkF.frz (zck Xt.f_makes_a_pot sc_makes_a_pot fun _ _ _ _ _ _ _ hr =>
    (zbq (zbm (zau (fe_isB .tuple (zbf 0) rfl Xt.n_isinstance rfl Xt.n_tuple boot_tuple) (zau (fe_cmp (zcm (hu9 hr)) sndD (zav zal (zdk rfl) rfl Xt.n_len PySem.boot_len (zas (zbf 0) zat)) zaz (zcd _)) (zau (zaw (ok_is_hand Xt) rfl (hr.mono (by decide)) rfl (zas (zba zbw (zdj rfl) (zbf 0) zaz (fun _ _ => rfl)) zat)) (zau (zaw (ok_is_hand Xt) rfl (hr.mono (by decide)) rfl (zas (zba zbw (zdj rfl) (zbf 0) zaz (fun _ _ => rfl)) zat)) (zau (fe_cmp (op_neD (hu9 hr)) sndD (zba zbw (zdj rfl) (zbf 0) zaz (fun _ _ => rfl)) (zba zbw (zdj rfl) (zbf 0) zaz (fun _ _ => rfl)) (zcd _)) (zau (zaw (zcj Xt) rfl (hr.mono (by decide)) rfl (zas (zba zbw (zdj rfl) (zbf 0) zaz (fun _ _ => rfl)) (zas zaz (zas (zay (u := .int 1000000000000 (Xt.c_MOST_COIN).choose) rfl (Xt.c_MOST_COIN).choose_spec ⟨_, rfl⟩) zat)))) (zau (zaw (zcj Xt) rfl (hr.mono (by decide)) rfl (zas (zba zbw (zdj rfl) (zbf 0) zaz (fun _ _ => rfl)) (zas zaz (zas (zay (u := .int 1000000000000 (Xt.c_MOST_COIN).choose) rfl (Xt.c_MOST_COIN).choose_spec ⟨_, rfl⟩) zat)))) (fe_one (zaw (zcj Xt) rfl (hr.mono (by decide)) rfl (zas (zba zbw (zdj rfl) (zbf 0) zaz (fun _ _ => rfl)) (zas zaz (zas (zay (u := .int 100 (Xt.c_MOST_WAIT).choose) rfl (Xt.c_MOST_WAIT).choose_spec ⟨_, rfl⟩) zat))))))))))))))))
abbrev s_checked_pots : Stmt := top 49
noncomputable def g_checked_pots : Ev -> M Fl :=
  (zct (sForN (srcE (zar 0)) (tgT 2 (tgCons (tgN 1) (tgCons (tgN 2) tgNil))) (sIf (bOr (eT (zap oGt (zar 1) (eC (.int 2)))) (bNot (eT (eFn 1 f_makes_a_pot [] (zah (zar 2) zai))))) sBad sNil))
  (zcs (eFrz (zaq oList (zah (zar 0) zai)))))
noncomputable def f_checked_pots : List D -> M D := hide fun ds => frz (run 3 g_checked_pots ds)
theorem sc_checked_pots : FnScope ["pots", "number", "made"] ["pots"] (zao s_checked_pots) := ⟨rfl, rfl, rfl, by decide +kernel, rfl, by decide +kernel, by decide +kernel⟩
theorem bd_checked_pots : ∀ (kV doc pm : Value) (an : Option Addr) (cdv ct : Value) (us : List Value), us.length = (["pots"] : List Str).length -> bindArgs (PySem.W.fnOf "checked_pots" "checked_pots" (zam s_checked_pots) (zan s_checked_pots) (zao s_checked_pots) .none kV doc pm an cdv ct) ⟨us, []⟩ = pure ((["pots"] : List Str).zip us) :=
  fun _ _ _ _ _ _ us hl => match us, hl with | [_], _ => rfl
theorem ok_checked_pots (Xt : Txt K mg ca) : OkF ⟨K, ca⟩ P w mg base 5 "checked_pots" ["pots"] f_checked_pots :=
  OkF.hide (OkF.frz (zck Xt.f_checked_pots sc_checked_pots fun _ _ _ _ _ _ _ hr =>
    (zbo (fs_forN zcp rfl (fi_enum rfl Xt.n_enumerate (zbf 0)) (fg_tup rfl (fgs_cons (zbg (i := 1) sc_checked_pots.nd rfl (Or.inl rfl)) (fgs_cons (zbg (i := 2) sc_checked_pots.nd rfl (Or.inl rfl)) fgs_nil))) (zbq (zbl (L2.PW.pt (fw_or (zbr op_gt snd_gt (zbf 1) (zay (u := .int 2 (Xt.c_MOST_POT).choose) rfl (Xt.c_MOST_POT).choose_spec ⟨_, rfl⟩) (zcd _)) (fw_or1 (ft_not (zbs (zaw (ok_makes_a_pot Xt) rfl (hr.mono (by decide)) rfl (zas (zbf 2) zat))))))) (zbq fs_bad) zbp)))
    (zbq (zbm (fe_frz (fe_callTy call_list_of (snd_list rfl) rfl Xt.n_list boot_list (zas (zbf 0) zat))))))))
abbrev zcx : Stmt := zcb (top 41) 0
noncomputable def g_Claim___init__ : Ev -> M Fl :=
  (sPut [4, 5, 6, 7] "whole" (zar 1) (zar 0))
noncomputable def f_Claim___init__ : List D -> M D := hide (run 2 g_Claim___init__)
theorem sc_Claim___init__ : FnScope ["self", "whole"] ["self", "whole"] (zao zcx) := ⟨rfl, rfl, rfl, by decide +kernel, rfl, by decide +kernel, by decide +kernel⟩
theorem bd_Claim___init__ : ∀ (kV doc pm : Value) (an : Option Addr) (cdv ct : Value) (us : List Value), us.length = (["self", "whole"] : List Str).length -> bindArgs (PySem.W.fnOf "__init__" "Claim.__init__" (zam zcx) (zan zcx) (zao zcx) .none kV doc pm an cdv ct) ⟨us, []⟩ = pure ((["self", "whole"] : List Str).zip us) :=
  fun _ _ _ _ _ _ us hl => match us, hl with | [_, _], _ => rfl
theorem ok_Claim___init__ (Xt : Txt K mg ca) : OkA ⟨K, ca⟩ P w mg base 1 (ca 9) ["self", "whole"] f_Claim___init__ :=
  OkA.hide (zcg Xt.f_Claim___init__ sc_Claim___init__ fun _ _ _ _ _ _ hr =>
    (zbq (fs_fld rfl (zbi (T := ⟨K, ca⟩) (c := 4) Xt.cl_Claim Xt.na_Claim_whole (zbi (T := ⟨K, ca⟩) (c := 5) Xt.cl_Held Xt.na_Held_whole (zbi (T := ⟨K, ca⟩) (c := 6) Xt.cl_Laid Xt.na_Laid_whole (zbi (T := ⟨K, ca⟩) (c := 7) Xt.cl_Taken Xt.na_Taken_whole zbj)))) (zbf 0) (zbf 1))))
abbrev s_whole_of : Stmt := top 50
noncomputable def g_whole_of : Ev -> M Fl :=
  (zcs (zap oAdd (zap oIx (zar 0) (eC (.int 2))) (zap oIx (zar 0) (eC (.int 3)))))
noncomputable def f_whole_of : List D -> M D := hide fun ds => frz (run 1 g_whole_of ds)
theorem sc_whole_of : FnScope ["made"] ["made"] (zao s_whole_of) := ⟨rfl, rfl, rfl, by decide +kernel, rfl, by decide +kernel, by decide +kernel⟩
theorem bd_whole_of : ∀ (kV doc pm : Value) (an : Option Addr) (cdv ct : Value) (us : List Value), us.length = (["made"] : List Str).length -> bindArgs (PySem.W.fnOf "whole_of" "whole_of" (zam s_whole_of) (zan s_whole_of) (zao s_whole_of) .none kV doc pm an cdv ct) ⟨us, []⟩ = pure ((["made"] : List Str).zip us) :=
  fun _ _ _ _ _ _ us hl => match us, hl with | [_], _ => rfl
theorem ok_whole_of (Xt : Txt K mg ca) : OkF ⟨K, ca⟩ P w mg base 1 "whole_of" ["made"] f_whole_of :=
  OkF.hide (OkF.frz (zck Xt.f_whole_of sc_whole_of fun _ _ _ _ _ _ _ hr =>
    (zbq (zbm (zbc (zcl rfl) sndD (zba zbw (zdj rfl) (zbf 0) zaz (fun _ _ => rfl)) (zba zbw (zdj rfl) (zbf 0) zaz (fun _ _ => rfl)))))))
abbrev zcu : Stmt := zcb (top 53) 0
noncomputable def g_Book___init__ : Ev -> M Fl :=
  (zct (sPut [8] "pots" (eFn 1 f_checked_pots [] (zah (zar 1) zai)) (zar 0))
  (zct (sPut [6, 8] "day" (eC (.int 0)) (zar 0))
  (zct (sPut [8] "claims" (eLC (srcS (eUn (oFld [8] "pots") (zar 0))) [] (tgN 0) bTrue (eFrz (eMake 5 2 f_Claim___init__ (zah (eFn 1 f_whole_of [] (zah (zar 0) zai)) zai)))) (zar 0))
  (sPut [8] "shown" (eLC (srcS (eUn (oFld [8] "pots") (zar 0))) [] (tgN 0) bTrue eDnew) (zar 0)))))
noncomputable def f_Book___init__ : List D -> M D := hide (run 2 g_Book___init__)
theorem sc_Book___init__ : FnScope ["self", "pots"] ["self", "pots"] (zao zcu) := ⟨rfl, rfl, rfl, by decide +kernel, rfl, by decide +kernel, by decide +kernel⟩
theorem bd_Book___init__ : ∀ (kV doc pm : Value) (an : Option Addr) (cdv ct : Value) (us : List Value), us.length = (["self", "pots"] : List Str).length -> bindArgs (PySem.W.fnOf "__init__" "Book.__init__" (zam zcu) (zan zcu) (zao zcu) .none kV doc pm an cdv ct) ⟨us, []⟩ = pure ((["self", "pots"] : List Str).zip us) :=
  fun _ _ _ _ _ _ us hl => match us, hl with | [_, _], _ => rfl
theorem ok_Book___init__ (Xt : Txt K mg ca) : OkA ⟨K, ca⟩ P w mg base 6 (ca 22) ["self", "pots"] f_Book___init__ :=
  OkA.hide (zcg Xt.f_Book___init__ sc_Book___init__ fun _ _ _ _ _ _ hr =>
    (zbo (fs_fld rfl (zbi (T := ⟨K, ca⟩) (c := 8) Xt.cl_Book Xt.na_Book_pots zbj) (zbf 0) (zaw (ok_checked_pots Xt) rfl (hr.mono (by decide)) rfl (zas (zbf 1) zat)))
    (zbo (fs_fld rfl (zbi (T := ⟨K, ca⟩) (c := 6) Xt.cl_Laid Xt.na_Laid_day (zbi (T := ⟨K, ca⟩) (c := 8) Xt.cl_Book Xt.na_Book_day zbj)) (zbf 0) zaz)
    (zbo (fs_fld rfl (zbi (T := ⟨K, ca⟩) (c := 8) Xt.cl_Book Xt.na_Book_claims zbj) (zbf 0) (fe_lc (x := "made") (M' := []) (ix := []) rfl ⟨rfl, rfl, rfl, rfl, rfl, rfl⟩ (fi_seq rfl (zax rfl (zbi (T := ⟨K, ca⟩) (c := 8) Xt.cl_Book Xt.na_Book_pots zbj) (zbf 0))) (fun _ _ _ _ _ => zbg (i := 0) (by show List.Nodup (("made" :: []) : List Str); decide +kernel) rfl (Or.inl rfl)) (fun _ _ _ _ _ => fif_nil) (fun _ _ _ _ _ => (fe_frz (fe_make (c := 5) (ps := ["self", "whole"]) ⟨_, Xt.m_Held, Xt.mk_Held, ok_Claim___init__ Xt⟩ rfl (hr.mono (by decide)) rfl (zas (zaw (ok_whole_of Xt) rfl (hr.mono (by decide)) rfl (zas (zbf 0) zat)) zat))))))
    (zbq (fs_fld rfl (zbi (T := ⟨K, ca⟩) (c := 8) Xt.cl_Book Xt.na_Book_shown zbj) (zbf 0) (fe_lc (x := "made") (M' := []) (ix := []) rfl ⟨rfl, rfl, rfl, rfl, rfl, rfl⟩ (fi_seq rfl (zax rfl (zbi (T := ⟨K, ca⟩) (c := 8) Xt.cl_Book Xt.na_Book_pots zbj) (zbf 0))) (fun _ _ _ _ _ => zbg (i := 0) (by show List.Nodup (("made" :: []) : List Str); decide +kernel) rfl (Or.inl rfl)) (fun _ _ _ _ _ => fif_nil) (fun _ _ _ _ _ => fe_dnew))))))))
abbrev zdd : Stmt := top 57
noncomputable def g__law_small_stand : Ev -> M Fl :=
  (zct (sSet 2 (zar 1))
  (zct (sSet 3 (eTup zai))
  (zct (sSet 4 (eLst zai))
  (zct (sFor (srcR (zap oMod (zar 0) (eC (.int 7)))) (tgN 5) (zct (sSet 6 (eFn 2 f__law_mixed [] (zah (zap oDiv (zar 0) (eC (.int 7))) (zah (zar 5) zai))))
  (zct (sSet 7 (zaq oMin2 (zah (zar 2) (zah (zap oAdd (eC (.int 1)) (zap oMod (zap oDiv (zar 6) (eC (.int 7))) (zap oIx (eLv (zah (eC (.int 9)) (zah (zap oAdd (eC (.int 1)) (zar 1)) zai))) (zap oDiv (zap oMod (zar 6) (eC (.int 7))) (eC (.int 6)))))) zai))))
  (zct (sSet 8 (zap oMod (zap oDiv (zar 6) (eC (.int 70))) (eC (.int 12))))
  (sIf (bAnd (eT (zap oGt (zar 7) (eC (.int 0)))) (eT (zap (oIn true) (zar 8) (zar 4)))) (zct (sExp (eMeth oAppend (zar 4) (zah (zar 8) zai)))
  (zct (sSet 2 (zap oSub (zar 2) (zar 7)))
  (sSet 3 (zap oAdd (zar 3) (eTup (zah (eTup (zah (zap oMod (zap oDiv (zar 6) (eC (.int 840))) (eC (.int 2))) (zah (zar 7) (zah (zar 8) (zah (zap oMod (zap oDiv (zar 6) (eC (.int 1680))) (eC (.int 30))) zai))))) zai)))))) sNil)))))
  (zct (sSet 9 (zap oMod (eFn 2 f__law_mixed [] (zah (zap oDiv (zar 0) (eC (.int 7))) (zah (eC (.int 9)) zai))) (zap oAdd (zar 2) (eC (.int 1)))))
  (zcs (eTup (zah (zap oMod (zap oDiv (zar 0) (eC (.int 7))) (eC (.int 7))) (zah (eTup (zah (zar 9) (zah (zap oSub (zar 2) (zar 9)) zai))) (zah (zar 3) zai))))))))))
noncomputable def f__law_small_stand : List D -> M D := hide fun ds => frz (run 10 g__law_small_stand ds)
theorem zdh : FnScope ["_law_cell", "_law_whole", "_law_left", "_law_ties", "_law_words", "_law_k", "_law_number", "_law_amount", "_law_word", "_law_share"] ["_law_cell", "_law_whole"] (zao zdd) := ⟨rfl, rfl, rfl, by decide +kernel, rfl, by decide +kernel, by decide +kernel⟩
theorem bd__law_small_stand : ∀ (kV doc pm : Value) (an : Option Addr) (cdv ct : Value) (us : List Value), us.length = (["_law_cell", "_law_whole"] : List Str).length -> bindArgs (PySem.W.fnOf "_law_small_stand" "_law_small_stand" (zam zdd) (zan zdd) (zao zdd) .none kV doc pm an cdv ct) ⟨us, []⟩ = pure ((["_law_cell", "_law_whole"] : List Str).zip us) :=
  fun _ _ _ _ _ _ us hl => match us, hl with | [_, _], _ => rfl
theorem ok__law_small_stand (Xt : Txt K mg ca) : OkF ⟨K, ca⟩ P w mg base 2 "_law_small_stand" ["_law_cell", "_law_whole"] f__law_small_stand :=
  OkF.hide (OkF.frz (zck Xt.f__law_small_stand zdh fun _ _ _ _ _ _ _ hr =>
    (zbo (zbn (i := 2) zdh.nd rfl (Or.inl rfl) (zbf 1))
    (zbo (zbn (i := 3) zdh.nd rfl (Or.inl rfl) (zbe zat))
    (zbo (zbn (i := 4) zdh.nd rfl (Or.inl rfl) (fe_lst zat))
    (zbo (fs_for zcp rfl (fi_range rfl Xt.n_range (zbc zco zdl (zbf 0) zaz)) (zbg (i := 5) zdh.nd rfl (Or.inl rfl)) (zbo (zbn (i := 6) zdh.nd rfl (Or.inl rfl) (zaw (ok__law_mixed Xt) rfl (hr.mono (by decide)) rfl (zas (zbc zcn zdi (zbf 0) zaz) (zas (zbf 5) zat))))
    (zbo (zbn (i := 7) zdh.nd rfl (Or.inl rfl) (zav (call_min2 rfl) snd_min2 rfl Xt.n_min boot_min (zas (zbf 2) (zas (zbc (zcl rfl) sndD zaz (zbc zco zdl (zbc zcn zdi (zbf 6) zaz) (zba zbw (zdj rfl) (fe_lv (zas zaz (zas (zbc (zcl rfl) sndD zaz (zbf 1)) zat))) (zbc zcn zdi (zbc zco zdl (zbf 6) zaz) zaz) (fun _ _ => rfl)))) zat))))
    (zbo (zbn (i := 8) zdh.nd rfl (Or.inl rfl) (zbc zco zdl (zbc zcn zdi (zbf 6) zaz) zaz))
    (zbq (zbl (L2.PW.pt (fw_and (zbr op_gt snd_gt (zbf 7) zaz (zcd _)) (fw_and1 (zbr op_notIn_seq (snd_in rfl true) (zbf 8) (zbf 4) rfl)))) (zbo (zbk (fe_meth PySem.F.plainAttrs_list PySem.F.slot_list_append PySem.F.type_list_append mt_append snd_append (zbf 4) (zas (zbf 8) zat)))
    (zbo (zbn (i := 2) zdh.nd rfl (Or.inl rfl) (zbc op_sub snd_sub (zbf 2) (zbf 7)))
    (zbq (zbn (i := 3) zdh.nd rfl (Or.inl rfl) (zbc (zcl rfl) sndD (zbf 3) (zbe (zas (zbe (zas (zbc zco zdl (zbc zcn zdi (zbf 6) zaz) zaz) (zas (zbf 7) (zas (zbf 8) (zas (zbc zco zdl (zbc zcn zdi (zbf 6) zaz) zaz) zat))))) zat))))))) zbp))))))
    (zbo (zbn (i := 9) zdh.nd rfl (Or.inl rfl) (zbc zco zdl (zaw (ok__law_mixed Xt) rfl (hr.mono (by decide)) rfl (zas (zbc zcn zdi (zbf 0) zaz) (zas zaz zat))) (zbc (zcl rfl) sndD (zbf 2) zaz)))
    (zbq (zbm (zbe (zas (zbc zco zdl (zbc zcn zdi (zbf 0) zaz) zaz) (zas (zbe (zas (zbf 9) (zas (zbc op_sub snd_sub (zbf 2) (zbf 9)) zat))) (zas (zbf 3) zat)))))))))))))
abbrev zcw : Stmt := zcb (top 53) 3
noncomputable def g_Book_next_day : Ev -> M Fl :=
  (sFAug [6, 8] "day" (eC (.int 1)) (zar 0))
noncomputable def f_Book_next_day : List D -> M D := hide (run 1 g_Book_next_day)
theorem sc_Book_next_day : FnScope ["self"] ["self"] (zao zcw) := ⟨rfl, rfl, rfl, by decide +kernel, rfl, by decide +kernel, by decide +kernel⟩
theorem bd_Book_next_day : ∀ (kV doc pm : Value) (an : Option Addr) (cdv ct : Value) (us : List Value), us.length = (["self"] : List Str).length -> bindArgs (PySem.W.fnOf "next_day" "Book.next_day" (zam zcw) (zan zcw) (zao zcw) .none kV doc pm an cdv ct) ⟨us, []⟩ = pure ((["self"] : List Str).zip us) :=
  fun _ _ _ _ _ _ us hl => match us, hl with | [_], _ => rfl
theorem ok_Book_next_day (Xt : Txt K mg ca) : OkA ⟨K, ca⟩ P w mg base 1 (ca 25) ["self"] f_Book_next_day :=
  OkA.hide (zcg Xt.f_Book_next_day sc_Book_next_day fun _ _ _ _ _ _ hr =>
    (zbq (fs_fldaug rfl (zbi (T := ⟨K, ca⟩) (c := 6) Xt.cl_Laid Xt.na_Laid_day (zbi (T := ⟨K, ca⟩) (c := 8) Xt.cl_Book Xt.na_Book_day zbj)) (zbf 0) zaz)))
abbrev zcv : Stmt := zcb (top 53) 1
noncomputable def g_Book_check_pot : Ev -> M Fl :=
  (sIf (bNot (eT (eFn 3 f_is_between [] (zah (zar 1) (zah (eC (.int 0)) (zah (zap oSub (zaq oLen (zah (eUn (oFld [8] "pots") (zar 0)) zai)) (eC (.int 1))) zai)))))) (sRaise 2 (zah (eC (.str "the book hasn't this pot")) zai)) sNil)
noncomputable def f_Book_check_pot : List D -> M D := hide fun ds => frz (run 2 g_Book_check_pot ds)
theorem sc_Book_check_pot : FnScope ["self", "pot"] ["self", "pot"] (zao zcv) := ⟨rfl, rfl, rfl, by decide +kernel, rfl, by decide +kernel, by decide +kernel⟩
theorem bd_Book_check_pot : ∀ (kV doc pm : Value) (an : Option Addr) (cdv ct : Value) (us : List Value), us.length = (["self", "pot"] : List Str).length -> bindArgs (PySem.W.fnOf "check_pot" "Book.check_pot" (zam zcv) (zan zcv) (zao zcv) .none kV doc pm an cdv ct) ⟨us, []⟩ = pure ((["self", "pot"] : List Str).zip us) :=
  fun _ _ _ _ _ _ us hl => match us, hl with | [_, _], _ => rfl
theorem zch (Xt : Txt K mg ca) : OkA ⟨K, ca⟩ P w mg base 3 (ca 23) ["self", "pot"] f_Book_check_pot :=
  OkA.hide (OkA.frz (zcg Xt.f_Book_check_pot sc_Book_check_pot fun _ _ _ _ _ _ hr =>
    (zbq (zbl (ft_not (zbs (zaw (zcj Xt) rfl (hr.mono (by decide)) rfl (zas (zbf 1) (zas zaz (zas (zbc op_sub snd_sub (zav zal (zdk rfl) rfl Xt.n_len PySem.boot_len (zas (zax rfl (zbi (T := ⟨K, ca⟩) (c := 8) Xt.cl_Book Xt.na_Book_pots zbj) (zbf 0)) zat)) zaz) zat)))))) (zbq (fs_raise 2 PySem.F.excBase_ValueError rfl Xt.x_NoDeed Xt.m_NoDeed rfl rfl (zas zbd zat))) zbp))))
abbrev s_is_word : Stmt := top 12
noncomputable def g_is_word : Ev -> M Fl :=
  (zcs (eFn 3 f_is_between [] (zah (zar 0) (zah (eC (.int 0)) (zah (eC (.int 59)) zai)))))
noncomputable def f_is_word : List D -> M D := hide fun ds => frz (run 1 g_is_word ds)
theorem sc_is_word : FnScope ["thing"] ["thing"] (zao s_is_word) := ⟨rfl, rfl, rfl, by decide +kernel, rfl, by decide +kernel, by decide +kernel⟩
theorem bd_is_word : ∀ (kV doc pm : Value) (an : Option Addr) (cdv ct : Value) (us : List Value), us.length = (["thing"] : List Str).length -> bindArgs (PySem.W.fnOf "is_word" "is_word" (zam s_is_word) (zan s_is_word) (zao s_is_word) .none kV doc pm an cdv ct) ⟨us, []⟩ = pure ((["thing"] : List Str).zip us) :=
  fun _ _ _ _ _ _ us hl => match us, hl with | [_], _ => rfl
theorem ok_is_word (Xt : Txt K mg ca) : OkF ⟨K, ca⟩ P w mg base 3 "is_word" ["thing"] f_is_word :=
  OkF.hide (OkF.frz (zck Xt.f_is_word sc_is_word fun _ _ _ _ _ _ _ hr =>
    (zbq (zbm (zaw (zcj Xt) rfl (hr.mono (by decide)) rfl (zas (zbf 0) (zas zaz (zas (zay (u := .int 59 (Xt.c_MOST_WORD).choose) rfl (Xt.c_MOST_WORD).choose_spec ⟨_, rfl⟩) zat))))))))
abbrev s_Book_show : Stmt := zcb (top 53) 4
noncomputable def g_Book_show : Ev -> M Fl :=
  (zct (sExp (eMth [(8, f_Book_check_pot)] 2 "check_pot" (zar 0) (zah (zar 1) zai)))
  (zct (sIf (bNot (eT (eFn 1 f_is_word [] (zah (zar 2) zai)))) (sRaise 2 (zah (eC (.str "there is no such word")) zai)) sNil)
  (sIf (eT (zap oDNotIn (zar 2) (zap oIx (eUn (oFld [8] "shown") (zar 0)) (zar 1)))) (sSetD (eUn (oFld [6, 8] "day") (zar 0)) (zap oIx (eUn (oFld [8] "shown") (zar 0)) (zar 1)) (zar 2)) sNil)))
noncomputable def f_Book_show : List D -> M D := hide (run 3 g_Book_show)
theorem sc_Book_show : FnScope ["self", "pot", "word"] ["self", "pot", "word"] (zao s_Book_show) := ⟨rfl, rfl, rfl, by decide +kernel, rfl, by decide +kernel, by decide +kernel⟩
theorem bd_Book_show : ∀ (kV doc pm : Value) (an : Option Addr) (cdv ct : Value) (us : List Value), us.length = (["self", "pot", "word"] : List Str).length -> bindArgs (PySem.W.fnOf "show" "Book.show" (zam s_Book_show) (zan s_Book_show) (zao s_Book_show) .none kV doc pm an cdv ct) ⟨us, []⟩ = pure ((["self", "pot", "word"] : List Str).zip us) :=
  fun _ _ _ _ _ _ us hl => match us, hl with | [_, _, _], _ => rfl
theorem ok_Book_show (Xt : Txt K mg ca) : OkA ⟨K, ca⟩ P w mg base 4 (ca 26) ["self", "pot", "word"] f_Book_show :=
  OkA.hide (zcg Xt.f_Book_show sc_Book_show fun _ _ _ _ _ _ hr =>
    (zbo (zbk (zbb (k := 3) (ps := ["self", "pot"]) rfl (zbf 0) (zbz (T := ⟨K, ca⟩) (c := 8) Xt.cl_Book Xt.me_Book_check_pot (zch Xt) (by decide) zca) (hr.mono (by decide)) (zas (zbf 1) zat)))
    (zbo (zbl (ft_not (zbs (zaw (ok_is_word Xt) rfl (hr.mono (by decide)) rfl (zas (zbf 2) zat)))) (zbq (fs_raise 2 PySem.F.excBase_ValueError rfl Xt.x_NoDeed Xt.m_NoDeed rfl rfl (zas zbd zat))) zbp)
    (zbq (zbl (zbr (op_dnotin (hu9 hr)) snd_dnotin (zbf 2) (zba zbw (zdj rfl) (zax rfl (zbi (T := ⟨K, ca⟩) (c := 8) Xt.cl_Book Xt.na_Book_shown zbj) (zbf 0)) (zbf 1) (fun _ _ => rfl)) rfl) (zbq (fs_setD (hu9 hr) (zax rfl (zbi (T := ⟨K, ca⟩) (c := 6) Xt.cl_Laid Xt.na_Laid_day (zbi (T := ⟨K, ca⟩) (c := 8) Xt.cl_Book Xt.na_Book_day zbj)) (zbf 0)) (zba zbw (zdj rfl) (zax rfl (zbi (T := ⟨K, ca⟩) (c := 8) Xt.cl_Book Xt.na_Book_shown zbj) (zbf 0)) (zbf 1) (fun _ _ => rfl)) (zbf 2))) zbp)))))
abbrev s_is_side : Stmt := top 10
noncomputable def g_is_side : Ev -> M Fl :=
  (zcs (eFn 3 f_is_between [] (zah (zar 0) (zah (eC (.int 0)) (zah (eC (.int 1)) zai)))))
noncomputable def f_is_side : List D -> M D := hide fun ds => frz (run 1 g_is_side ds)
theorem sc_is_side : FnScope ["thing"] ["thing"] (zao s_is_side) := ⟨rfl, rfl, rfl, by decide +kernel, rfl, by decide +kernel, by decide +kernel⟩
theorem bd_is_side : ∀ (kV doc pm : Value) (an : Option Addr) (cdv ct : Value) (us : List Value), us.length = (["thing"] : List Str).length -> bindArgs (PySem.W.fnOf "is_side" "is_side" (zam s_is_side) (zan s_is_side) (zao s_is_side) .none kV doc pm an cdv ct) ⟨us, []⟩ = pure ((["thing"] : List Str).zip us) :=
  fun _ _ _ _ _ _ us hl => match us, hl with | [_], _ => rfl
theorem ok_is_side (Xt : Txt K mg ca) : OkF ⟨K, ca⟩ P w mg base 3 "is_side" ["thing"] f_is_side :=
  OkF.hide (OkF.frz (zck Xt.f_is_side sc_is_side fun _ _ _ _ _ _ _ hr =>
    (zbq (zbm (zaw (zcj Xt) rfl (hr.mono (by decide)) rfl (zas (zbf 0) (zas zaz (zas zaz zat))))))))
abbrev s_check_side : Stmt := top 52
noncomputable def g_check_side : Ev -> M Fl :=
  (sIf (bNot (eT (eFn 1 f_is_side [] (zah (zar 0) zai)))) (sRaise 2 (zah (eC (.str "there is no such side")) zai)) sNil)
noncomputable def f_check_side : List D -> M D := hide fun ds => frz (run 1 g_check_side ds)
theorem sc_check_side : FnScope ["side"] ["side"] (zao s_check_side) := ⟨rfl, rfl, rfl, by decide +kernel, rfl, by decide +kernel, by decide +kernel⟩
theorem bd_check_side : ∀ (kV doc pm : Value) (an : Option Addr) (cdv ct : Value) (us : List Value), us.length = (["side"] : List Str).length -> bindArgs (PySem.W.fnOf "check_side" "check_side" (zam s_check_side) (zan s_check_side) (zao s_check_side) .none kV doc pm an cdv ct) ⟨us, []⟩ = pure ((["side"] : List Str).zip us) :=
  fun _ _ _ _ _ _ us hl => match us, hl with | [_], _ => rfl
theorem ok_check_side (Xt : Txt K mg ca) : OkF ⟨K, ca⟩ P w mg base 4 "check_side" ["side"] f_check_side :=
  OkF.hide (OkF.frz (zck Xt.f_check_side sc_check_side fun _ _ _ _ _ _ _ hr =>
    (zbq (zbl (ft_not (zbs (zaw (ok_is_side Xt) rfl (hr.mono (by decide)) rfl (zas (zbf 0) zat)))) (zbq (fs_raise 2 PySem.F.excBase_ValueError rfl Xt.x_NoDeed Xt.m_NoDeed rfl rfl (zas zbd zat))) zbp))))
abbrev s_deals : Stmt := top 32
noncomputable def g_deals : Ev -> M Fl :=
  (zcs (zap oAdd (zaq oSum (zah (zap oIx (zar 0) (eC (.int 1))) zai)) (zaq oSum (zah (eFrz (eLC (srcS (zap oIx (zar 0) (eC (.int 2)))) [] (tgN 0) bTrue (zap oIx (zar 0) (eC (.int 1))))) zai))))
noncomputable def f_deals : List D -> M D := hide fun ds => frz (run 1 g_deals ds)
theorem sc_deals : FnScope ["one"] ["one"] (zao s_deals) := ⟨rfl, rfl, rfl, by decide +kernel, rfl, by decide +kernel, by decide +kernel⟩
theorem bd_deals : ∀ (kV doc pm : Value) (an : Option Addr) (cdv ct : Value) (us : List Value), us.length = (["one"] : List Str).length -> bindArgs (PySem.W.fnOf "deals" "deals" (zam s_deals) (zan s_deals) (zao s_deals) .none kV doc pm an cdv ct) ⟨us, []⟩ = pure ((["one"] : List Str).zip us) :=
  fun _ _ _ _ _ _ us hl => match us, hl with | [_], _ => rfl
theorem ok_deals (Xt : Txt K mg ca) : OkF ⟨K, ca⟩ P w mg base 1 "deals" ["one"] f_deals :=
  OkF.hide (OkF.frz (zck Xt.f_deals sc_deals fun _ _ _ _ _ _ _ hr =>
    (zbq (zbm (zbc (zcl rfl) sndD (zav (call_sumI rfl) (snd_sum rfl) rfl Xt.n_sum boot_sum (zas (zba zbw (zdj rfl) (zbf 0) zaz (fun _ _ => rfl)) zat)) (zav (call_sumI rfl) (snd_sum rfl) rfl Xt.n_sum boot_sum (zas (fe_frz (fe_lc (x := "tie") (M' := []) (ix := []) rfl ⟨rfl, rfl, rfl, rfl, rfl, rfl⟩ (fi_seq rfl (zba zbw (zdj rfl) (zbf 0) zaz (fun _ _ => rfl))) (fun _ _ _ _ _ => zbg (i := 0) (by show List.Nodup (("tie" :: []) : List Str); decide +kernel) rfl (Or.inl rfl)) (fun _ _ _ _ _ => fif_nil) (fun _ _ _ _ _ => (zba zbw (zdj rfl) (zbf 0) zaz (fun _ _ => rfl))))) zat)))))))
abbrev s_is_day : Stmt := top 13
noncomputable def g_is_day : Ev -> M Fl :=
  (zcs (eFn 3 f_is_between [] (zah (zar 0) (zah (eC (.int 0)) (zah (eC (.int 1000000)) zai)))))
noncomputable def f_is_day : List D -> M D := hide fun ds => frz (run 1 g_is_day ds)
theorem sc_is_day : FnScope ["thing"] ["thing"] (zao s_is_day) := ⟨rfl, rfl, rfl, by decide +kernel, rfl, by decide +kernel, by decide +kernel⟩
theorem bd_is_day : ∀ (kV doc pm : Value) (an : Option Addr) (cdv ct : Value) (us : List Value), us.length = (["thing"] : List Str).length -> bindArgs (PySem.W.fnOf "is_day" "is_day" (zam s_is_day) (zan s_is_day) (zao s_is_day) .none kV doc pm an cdv ct) ⟨us, []⟩ = pure ((["thing"] : List Str).zip us) :=
  fun _ _ _ _ _ _ us hl => match us, hl with | [_], _ => rfl
theorem ok_is_day (Xt : Txt K mg ca) : OkF ⟨K, ca⟩ P w mg base 3 "is_day" ["thing"] f_is_day :=
  OkF.hide (OkF.frz (zck Xt.f_is_day sc_is_day fun _ _ _ _ _ _ _ hr =>
    (zbq (zbm (zaw (zcj Xt) rfl (hr.mono (by decide)) rfl (zas (zbf 0) (zas zaz (zas (zay (u := .int 1000000 (Xt.c_MOST_DAY).choose) rfl (Xt.c_MOST_DAY).choose_spec ⟨_, rfl⟩) zat))))))))
abbrev s_is_amount : Stmt := top 15
noncomputable def g_is_amount : Ev -> M Fl :=
  (zcs (eFn 3 f_is_between [] (zah (zar 0) (zah (eC (.int 1)) (zah (eC (.int 1000000000000)) zai)))))
noncomputable def f_is_amount : List D -> M D := hide fun ds => frz (run 1 g_is_amount ds)
theorem sc_is_amount : FnScope ["thing"] ["thing"] (zao s_is_amount) := ⟨rfl, rfl, rfl, by decide +kernel, rfl, by decide +kernel, by decide +kernel⟩
theorem bd_is_amount : ∀ (kV doc pm : Value) (an : Option Addr) (cdv ct : Value) (us : List Value), us.length = (["thing"] : List Str).length -> bindArgs (PySem.W.fnOf "is_amount" "is_amount" (zam s_is_amount) (zan s_is_amount) (zao s_is_amount) .none kV doc pm an cdv ct) ⟨us, []⟩ = pure ((["thing"] : List Str).zip us) :=
  fun _ _ _ _ _ _ us hl => match us, hl with | [_], _ => rfl
theorem ok_is_amount (Xt : Txt K mg ca) : OkF ⟨K, ca⟩ P w mg base 3 "is_amount" ["thing"] f_is_amount :=
  OkF.hide (OkF.frz (zck Xt.f_is_amount sc_is_amount fun _ _ _ _ _ _ _ hr =>
    (zbq (zbm (zaw (zcj Xt) rfl (hr.mono (by decide)) rfl (zas (zbf 0) (zas zaz (zas (zay (u := .int 1000000000000 (Xt.c_MOST_AMOUNT).choose) rfl (Xt.c_MOST_AMOUNT).choose_spec ⟨_, rfl⟩) zat))))))))
abbrev s_is_tie : Stmt := top 26
noncomputable def g_is_tie : Ev -> M Fl :=
  (zcs (eAnd (eUn (oIsB .tuple) (zar 0)) (eAnd (zap oEq (zaq oLen (zah (zar 0) zai)) (eC (.int 4))) (eAnd (eFn 1 f_is_side [] (zah (zap oIx (zar 0) (eC (.int 0))) zai)) (eAnd (eFn 1 f_is_amount [] (zah (zap oIx (zar 0) (eC (.int 1))) zai)) (eAnd (eFn 1 f_is_word [] (zah (zap oIx (zar 0) (eC (.int 2))) zai)) (eFn 1 f_is_day [] (zah (zap oIx (zar 0) (eC (.int 3))) zai))))))))
noncomputable def f_is_tie : List D -> M D := hide fun ds => frz (run 1 g_is_tie ds)
theorem sc_is_tie : FnScope ["thing"] ["thing"] (zao s_is_tie) := ⟨rfl, rfl, rfl, by decide +kernel, rfl, by decide +kernel, by decide +kernel⟩
theorem bd_is_tie : ∀ (kV doc pm : Value) (an : Option Addr) (cdv ct : Value) (us : List Value), us.length = (["thing"] : List Str).length -> bindArgs (PySem.W.fnOf "is_tie" "is_tie" (zam s_is_tie) (zan s_is_tie) (zao s_is_tie) .none kV doc pm an cdv ct) ⟨us, []⟩ = pure ((["thing"] : List Str).zip us) :=
  fun _ _ _ _ _ _ us hl => match us, hl with | [_], _ => rfl
theorem ok_is_tie (Xt : Txt K mg ca) : OkF ⟨K, ca⟩ P w mg base 4 "is_tie" ["thing"] f_is_tie :=
  OkF.hide (OkF.frz (zck Xt.f_is_tie sc_is_tie fun _ _ _ _ _ _ _ hr =>
    (zbq (zbm (zau (fe_isB .tuple (zbf 0) rfl Xt.n_isinstance rfl Xt.n_tuple boot_tuple) (zau (fe_cmp (zcm (hu9 hr)) sndD (zav zal (zdk rfl) rfl Xt.n_len PySem.boot_len (zas (zbf 0) zat)) zaz (zcd _)) (zau (zaw (ok_is_side Xt) rfl (hr.mono (by decide)) rfl (zas (zba zbw (zdj rfl) (zbf 0) zaz (fun _ _ => rfl)) zat)) (zau (zaw (ok_is_amount Xt) rfl (hr.mono (by decide)) rfl (zas (zba zbw (zdj rfl) (zbf 0) zaz (fun _ _ => rfl)) zat)) (zau (zaw (ok_is_word Xt) rfl (hr.mono (by decide)) rfl (zas (zba zbw (zdj rfl) (zbf 0) zaz (fun _ _ => rfl)) zat)) (fe_one (zaw (ok_is_day Xt) rfl (hr.mono (by decide)) rfl (zas (zba zbw (zdj rfl) (zbf 0) zaz (fun _ _ => rfl)) zat))))))))))))
abbrev s_are_ties : Stmt := top 28
noncomputable def g_are_ties : Ev -> M Fl :=
  (zct (sIf (bOr (bNot (eT (eUn (oIsB .tuple) (zar 0)))) (eT (zap oGt (zaq oLen (zah (zar 0) zai)) (eC (.int 6))))) (zcs (eC (.bl false))) sNil)
  (zct (sIf (bNot (eT (zaq oAll (zah (eFrz (eLC (srcS (zar 0)) [] (tgN 0) bTrue (eFn 1 f_is_tie [] (zah (zar 0) zai)))) zai)))) (zcs (eC (.bl false))) sNil)
  (zcs (zap oEq (eUn oLenSet (eFrz (eLC (srcS (zar 0)) [] (tgN 0) bTrue (zap oIx (zar 0) (eC (.int 2)))))) (zaq oLen (zah (zar 0) zai))))))
noncomputable def f_are_ties : List D -> M D := hide fun ds => frz (run 1 g_are_ties ds)
theorem sc_are_ties : FnScope ["thing"] ["thing"] (zao s_are_ties) := ⟨rfl, rfl, rfl, by decide +kernel, rfl, by decide +kernel, by decide +kernel⟩
theorem bd_are_ties : ∀ (kV doc pm : Value) (an : Option Addr) (cdv ct : Value) (us : List Value), us.length = (["thing"] : List Str).length -> bindArgs (PySem.W.fnOf "are_ties" "are_ties" (zam s_are_ties) (zan s_are_ties) (zao s_are_ties) .none kV doc pm an cdv ct) ⟨us, []⟩ = pure ((["thing"] : List Str).zip us) :=
  fun _ _ _ _ _ _ us hl => match us, hl with | [_], _ => rfl
theorem ok_are_ties (Xt : Txt K mg ca) : OkF ⟨K, ca⟩ P w mg base 5 "are_ties" ["thing"] f_are_ties :=
  OkF.hide (OkF.frz (zck Xt.f_are_ties sc_are_ties fun _ _ _ _ _ _ _ hr =>
    (zbo (zbl (L2.PW.pt (fw_or (ft_not (zbs (fe_isB .tuple (zbf 0) rfl Xt.n_isinstance rfl Xt.n_tuple boot_tuple))) (fw_or1 (zbr op_gt snd_gt (zav zal (zdk rfl) rfl Xt.n_len PySem.boot_len (zas (zbf 0) zat)) (zay (u := .int 6 (Xt.c_MOST_TIES).choose) rfl (Xt.c_MOST_TIES).choose_spec ⟨_, rfl⟩) (zcd _))))) (zbq (zbm fe_bl)) zbp)
    (zbo (zbl (ft_not (zbs (zav (call_all rfl) (snd_all rfl) rfl Xt.n_all boot_all (zas (fe_frz (fe_lc (x := "tie") (M' := []) (ix := []) rfl ⟨rfl, rfl, rfl, rfl, rfl, rfl⟩ (fi_seq rfl (zbf 0)) (fun _ _ _ _ _ => zbg (i := 0) (by show List.Nodup (("tie" :: []) : List Str); decide +kernel) rfl (Or.inl rfl)) (fun _ _ _ _ _ => fif_nil) (fun _ _ _ _ _ => (zaw (ok_is_tie Xt) rfl (hr.mono (by decide)) rfl (zas (zbf 0) zat))))) zat)))) (zbq (zbm fe_bl)) zbp)
    (zbq (zbm (fe_cmp (zcm (hu9 hr)) sndD (fe_lenSet rfl rfl rfl Xt.n_len rfl Xt.n_set (fe_frz (fe_lc (x := "tie") (M' := []) (ix := []) rfl ⟨rfl, rfl, rfl, rfl, rfl, rfl⟩ (fi_seq rfl (zbf 0)) (fun _ _ _ _ _ => zbg (i := 0) (by show List.Nodup (("tie" :: []) : List Str); decide +kernel) rfl (Or.inl rfl)) (fun _ _ _ _ _ => fif_nil) (fun _ _ _ _ _ => (zba zbw (zdj rfl) (zbf 0) zaz (fun _ _ => rfl)))))) (zav zal (zdk rfl) rfl Xt.n_len PySem.boot_len (zas (zbf 0) zat)) (zcd _))))))))
abbrev s_are_shares : Stmt := top 27
noncomputable def g_are_shares : Ev -> M Fl :=
  (zcs (eAnd (eUn (oIsB .tuple) (zar 0)) (eAnd (zap oEq (zaq oLen (zah (zar 0) zai)) (eC (.int 2))) (eAnd (eFn 3 f_is_between [] (zah (zap oIx (zar 0) (eC (.int 0))) (zah (eC (.int 0)) (zah (eC (.int 2000000000000)) zai)))) (eFn 3 f_is_between [] (zah (zap oIx (zar 0) (eC (.int 1))) (zah (eC (.int 0)) (zah (eC (.int 2000000000000)) zai))))))))
noncomputable def f_are_shares : List D -> M D := hide fun ds => frz (run 1 g_are_shares ds)
theorem sc_are_shares : FnScope ["thing"] ["thing"] (zao s_are_shares) := ⟨rfl, rfl, rfl, by decide +kernel, rfl, by decide +kernel, by decide +kernel⟩
theorem bd_are_shares : ∀ (kV doc pm : Value) (an : Option Addr) (cdv ct : Value) (us : List Value), us.length = (["thing"] : List Str).length -> bindArgs (PySem.W.fnOf "are_shares" "are_shares" (zam s_are_shares) (zan s_are_shares) (zao s_are_shares) .none kV doc pm an cdv ct) ⟨us, []⟩ = pure ((["thing"] : List Str).zip us) :=
  fun _ _ _ _ _ _ us hl => match us, hl with | [_], _ => rfl
theorem ok_are_shares (Xt : Txt K mg ca) : OkF ⟨K, ca⟩ P w mg base 3 "are_shares" ["thing"] f_are_shares :=
  OkF.hide (OkF.frz (zck Xt.f_are_shares sc_are_shares fun _ _ _ _ _ _ _ hr =>
    (zbq (zbm (zau (fe_isB .tuple (zbf 0) rfl Xt.n_isinstance rfl Xt.n_tuple boot_tuple) (zau (fe_cmp (zcm (hu9 hr)) sndD (zav zal (zdk rfl) rfl Xt.n_len PySem.boot_len (zas (zbf 0) zat)) zaz (zcd _)) (zau (zaw (zcj Xt) rfl (hr.mono (by decide)) rfl (zas (zba zbw (zdj rfl) (zbf 0) zaz (fun _ _ => rfl)) (zas zaz (zas (zay (u := .int 2000000000000 (Xt.c_MOST_SHARE).choose) rfl (Xt.c_MOST_SHARE).choose_spec ⟨_, rfl⟩) zat)))) (fe_one (zaw (zcj Xt) rfl (hr.mono (by decide)) rfl (zas (zba zbw (zdj rfl) (zbf 0) zaz (fun _ _ => rfl)) (zas zaz (zas (zay (u := .int 2000000000000 (Xt.c_MOST_SHARE).choose) rfl (Xt.c_MOST_SHARE).choose_spec ⟨_, rfl⟩) zat))))))))))))
abbrev s_is_number : Stmt := top 14
noncomputable def g_is_number : Ev -> M Fl :=
  (zcs (eFn 3 f_is_between [] (zah (zar 0) (zah (eC (.int 0)) (zah (eC (.int 1000000)) zai)))))
noncomputable def f_is_number : List D -> M D := hide fun ds => frz (run 1 g_is_number ds)
theorem sc_is_number : FnScope ["thing"] ["thing"] (zao s_is_number) := ⟨rfl, rfl, rfl, by decide +kernel, rfl, by decide +kernel, by decide +kernel⟩
theorem bd_is_number : ∀ (kV doc pm : Value) (an : Option Addr) (cdv ct : Value) (us : List Value), us.length = (["thing"] : List Str).length -> bindArgs (PySem.W.fnOf "is_number" "is_number" (zam s_is_number) (zan s_is_number) (zao s_is_number) .none kV doc pm an cdv ct) ⟨us, []⟩ = pure ((["thing"] : List Str).zip us) :=
  fun _ _ _ _ _ _ us hl => match us, hl with | [_], _ => rfl
theorem ok_is_number (Xt : Txt K mg ca) : OkF ⟨K, ca⟩ P w mg base 3 "is_number" ["thing"] f_is_number :=
  OkF.hide (OkF.frz (zck Xt.f_is_number sc_is_number fun _ _ _ _ _ _ _ hr =>
    (zbq (zbm (zaw (zcj Xt) rfl (hr.mono (by decide)) rfl (zas (zbf 0) (zas zaz (zas (zay (u := .int 1000000 (Xt.c_MOST_NUMBER).choose) rfl (Xt.c_MOST_NUMBER).choose_spec ⟨_, rfl⟩) zat))))))))
abbrev s_is_stand : Stmt := top 29
noncomputable def g_is_stand : Ev -> M Fl :=
  (zcs (eAnd (eUn (oIsB .tuple) (zar 0)) (eAnd (zap oEq (zaq oLen (zah (zar 0) zai)) (eC (.int 3))) (eAnd (eFn 1 f_is_number [] (zah (zap oIx (zar 0) (eC (.int 0))) zai)) (eAnd (eFn 1 f_are_shares [] (zah (zap oIx (zar 0) (eC (.int 1))) zai)) (eFn 1 f_are_ties [] (zah (zap oIx (zar 0) (eC (.int 2))) zai)))))))
noncomputable def f_is_stand : List D -> M D := hide fun ds => frz (run 1 g_is_stand ds)
theorem sc_is_stand : FnScope ["thing"] ["thing"] (zao s_is_stand) := ⟨rfl, rfl, rfl, by decide +kernel, rfl, by decide +kernel, by decide +kernel⟩
theorem bd_is_stand : ∀ (kV doc pm : Value) (an : Option Addr) (cdv ct : Value) (us : List Value), us.length = (["thing"] : List Str).length -> bindArgs (PySem.W.fnOf "is_stand" "is_stand" (zam s_is_stand) (zan s_is_stand) (zao s_is_stand) .none kV doc pm an cdv ct) ⟨us, []⟩ = pure ((["thing"] : List Str).zip us) :=
  fun _ _ _ _ _ _ us hl => match us, hl with | [_], _ => rfl
theorem ok_is_stand (Xt : Txt K mg ca) : OkF ⟨K, ca⟩ P w mg base 6 "is_stand" ["thing"] f_is_stand :=
  OkF.hide (OkF.frz (zck Xt.f_is_stand sc_is_stand fun _ _ _ _ _ _ _ hr =>
    (zbq (zbm (zau (fe_isB .tuple (zbf 0) rfl Xt.n_isinstance rfl Xt.n_tuple boot_tuple) (zau (fe_cmp (zcm (hu9 hr)) sndD (zav zal (zdk rfl) rfl Xt.n_len PySem.boot_len (zas (zbf 0) zat)) zaz (zcd _)) (zau (zaw (ok_is_number Xt) rfl (hr.mono (by decide)) rfl (zas (zba zbw (zdj rfl) (zbf 0) zaz (fun _ _ => rfl)) zat)) (zau (zaw (ok_are_shares Xt) rfl (hr.mono (by decide)) rfl (zas (zba zbw (zdj rfl) (zbf 0) zaz (fun _ _ => rfl)) zat)) (fe_one (zaw (ok_are_ties Xt) rfl (hr.mono (by decide)) rfl (zas (zba zbw (zdj rfl) (zbf 0) zaz (fun _ _ => rfl)) zat)))))))))))
abbrev s_is_stand_of : Stmt := top 33
noncomputable def g_is_stand_of : Ev -> M Fl :=
  (zcs (eAnd (eFn 1 f_is_stand [] (zah (zar 0) zai)) (zap oEq (eFn 1 f_deals [] (zah (zar 0) zai)) (zar 1))))
noncomputable def f_is_stand_of : List D -> M D := hide fun ds => frz (run 2 g_is_stand_of ds)
theorem sc_is_stand_of : FnScope ["thing", "coin"] ["thing", "coin"] (zao s_is_stand_of) := ⟨rfl, rfl, rfl, by decide +kernel, rfl, by decide +kernel, by decide +kernel⟩
theorem bd_is_stand_of : ∀ (kV doc pm : Value) (an : Option Addr) (cdv ct : Value) (us : List Value), us.length = (["thing", "coin"] : List Str).length -> bindArgs (PySem.W.fnOf "is_stand_of" "is_stand_of" (zam s_is_stand_of) (zan s_is_stand_of) (zao s_is_stand_of) .none kV doc pm an cdv ct) ⟨us, []⟩ = pure ((["thing", "coin"] : List Str).zip us) :=
  fun _ _ _ _ _ _ us hl => match us, hl with | [_, _], _ => rfl
theorem ok_is_stand_of (Xt : Txt K mg ca) : OkF ⟨K, ca⟩ P w mg base 7 "is_stand_of" ["thing", "coin"] f_is_stand_of :=
  OkF.hide (OkF.frz (zck Xt.f_is_stand_of sc_is_stand_of fun _ _ _ _ _ _ _ hr =>
    (zbq (zbm (zau (zaw (ok_is_stand Xt) rfl (hr.mono (by decide)) rfl (zas (zbf 0) zat)) (fe_one (fe_cmp (zcm (hu9 hr)) sndD (zaw (ok_deals Xt) rfl (hr.mono (by decide)) rfl (zas (zbf 0) zat)) (zbf 1) (zcd _))))))))
abbrev s_other_side : Stmt := top 17
noncomputable def g_other_side : Ev -> M Fl :=
  (zcs (zap oSub (eC (.int 1)) (zar 0)))
noncomputable def f_other_side : List D -> M D := hide fun ds => frz (run 1 g_other_side ds)
theorem sc_other_side : FnScope ["side"] ["side"] (zao s_other_side) := ⟨rfl, rfl, rfl, by decide +kernel, rfl, by decide +kernel, by decide +kernel⟩
theorem bd_other_side : ∀ (kV doc pm : Value) (an : Option Addr) (cdv ct : Value) (us : List Value), us.length = (["side"] : List Str).length -> bindArgs (PySem.W.fnOf "other_side" "other_side" (zam s_other_side) (zan s_other_side) (zao s_other_side) .none kV doc pm an cdv ct) ⟨us, []⟩ = pure ((["side"] : List Str).zip us) :=
  fun _ _ _ _ _ _ us hl => match us, hl with | [_], _ => rfl
theorem ok_other_side (Xt : Txt K mg ca) : OkF ⟨K, ca⟩ P w mg base 1 "other_side" ["side"] f_other_side :=
  OkF.hide (OkF.frz (zck Xt.f_other_side sc_other_side fun _ _ _ _ _ _ _ hr =>
    (zbq (zbm (zbc op_sub snd_sub zaz (zbf 0))))))
abbrev s_is_pot : Stmt := top 16
noncomputable def g_is_pot : Ev -> M Fl :=
  (zcs (eFn 3 f_is_between [] (zah (zar 0) (zah (eC (.int 0)) (zah (eC (.int 2)) zai)))))
noncomputable def f_is_pot : List D -> M D := hide fun ds => frz (run 1 g_is_pot ds)
theorem sc_is_pot : FnScope ["thing"] ["thing"] (zao s_is_pot) := ⟨rfl, rfl, rfl, by decide +kernel, rfl, by decide +kernel, by decide +kernel⟩
theorem bd_is_pot : ∀ (kV doc pm : Value) (an : Option Addr) (cdv ct : Value) (us : List Value), us.length = (["thing"] : List Str).length -> bindArgs (PySem.W.fnOf "is_pot" "is_pot" (zam s_is_pot) (zan s_is_pot) (zao s_is_pot) .none kV doc pm an cdv ct) ⟨us, []⟩ = pure ((["thing"] : List Str).zip us) :=
  fun _ _ _ _ _ _ us hl => match us, hl with | [_], _ => rfl
theorem ok_is_pot (Xt : Txt K mg ca) : OkF ⟨K, ca⟩ P w mg base 3 "is_pot" ["thing"] f_is_pot :=
  OkF.hide (OkF.frz (zck Xt.f_is_pot sc_is_pot fun _ _ _ _ _ _ _ hr =>
    (zbq (zbm (zaw (zcj Xt) rfl (hr.mono (by decide)) rfl (zas (zbf 0) (zas zaz (zas (zay (u := .int 2 (Xt.c_MOST_POT).choose) rfl (Xt.c_MOST_POT).choose_spec ⟨_, rfl⟩) zat))))))))
abbrev s_is_of_a_side : Stmt := top 37
noncomputable def g_is_of_a_side : Ev -> M Fl :=
  (zcs (eAnd (zap oEq (zaq oLen (zah (zar 0) zai)) (eC (.int 4))) (eAnd (eFn 1 f_is_pot [] (zah (zap oIx (zar 0) (eC (.int 1))) zai)) (eFn 1 f_is_side [] (zah (zap oIx (zar 0) (eC (.int 2))) zai)))))
noncomputable def f_is_of_a_side : List D -> M D := hide fun ds => frz (run 1 g_is_of_a_side ds)
theorem sc_is_of_a_side : FnScope ["thing"] ["thing"] (zao s_is_of_a_side) := ⟨rfl, rfl, rfl, by decide +kernel, rfl, by decide +kernel, by decide +kernel⟩
theorem bd_is_of_a_side : ∀ (kV doc pm : Value) (an : Option Addr) (cdv ct : Value) (us : List Value), us.length = (["thing"] : List Str).length -> bindArgs (PySem.W.fnOf "is_of_a_side" "is_of_a_side" (zam s_is_of_a_side) (zan s_is_of_a_side) (zao s_is_of_a_side) .none kV doc pm an cdv ct) ⟨us, []⟩ = pure ((["thing"] : List Str).zip us) :=
  fun _ _ _ _ _ _ us hl => match us, hl with | [_], _ => rfl
theorem ok_is_of_a_side (Xt : Txt K mg ca) : OkF ⟨K, ca⟩ P w mg base 4 "is_of_a_side" ["thing"] f_is_of_a_side :=
  OkF.hide (OkF.frz (zck Xt.f_is_of_a_side sc_is_of_a_side fun _ _ _ _ _ _ _ hr =>
    (zbq (zbm (zau (fe_cmp (zcm (hu9 hr)) sndD (zav zal (zdk rfl) rfl Xt.n_len PySem.boot_len (zas (zbf 0) zat)) zaz (zcd _)) (zau (zaw (ok_is_pot Xt) rfl (hr.mono (by decide)) rfl (zas (zba zbw (zdj rfl) (zbf 0) zaz (fun _ _ => rfl)) zat)) (fe_one (zaw (ok_is_side Xt) rfl (hr.mono (by decide)) rfl (zas (zba zbw (zdj rfl) (zbf 0) zaz (fun _ _ => rfl)) zat)))))))))
abbrev s_is_thing : Stmt := top 38
noncomputable def g_is_thing : Ev -> M Fl :=
  (zct (sIf (bOr (bNot (eT (eUn (oIsB .tuple) (zar 0)))) (bOr (eT (zap oEq (zaq oLen (zah (zar 0) zai)) (eC (.int 0)))) (bNot (eT (eUn (oIsB .str) (zap oIx (zar 0) (eC (.int 0)))))))) (zcs (eC (.bl false))) sNil)
  (zct (sIf (eT (zap oEq (zap oIx (zar 0) (eC (.int 0))) (eC (.str "word")))) (zcs (eAnd (zap oEq (zaq oLen (zah (zar 0) zai)) (eC (.int 2))) (eFn 1 f_is_word [] (zah (zap oIx (zar 0) (eC (.int 1))) zai)))) sNil)
  (zct (sIf (eT (zap oEq (zap oIx (zar 0) (eC (.int 0))) (eC (.str "strike")))) (zcs (eAnd (eFn 1 f_is_of_a_side [] (zah (zar 0) zai)) (eFn 1 f_is_number [] (zah (zap oIx (zar 0) (eC (.int 3))) zai)))) sNil)
  (zct (sIf (eT (zap oEq (zap oIx (zar 0) (eC (.int 0))) (eC (.str "agree")))) (zcs (eAnd (eFn 1 f_is_of_a_side [] (zah (zar 0) zai)) (eFn 1 f_is_stand [] (zah (zap oIx (zar 0) (eC (.int 3))) zai)))) sNil)
  (zcs (eC (.bl false)))))))
noncomputable def f_is_thing : List D -> M D := hide fun ds => frz (run 1 g_is_thing ds)
theorem sc_is_thing : FnScope ["thing"] ["thing"] (zao s_is_thing) := ⟨rfl, rfl, rfl, by decide +kernel, rfl, by decide +kernel, by decide +kernel⟩
theorem bd_is_thing : ∀ (kV doc pm : Value) (an : Option Addr) (cdv ct : Value) (us : List Value), us.length = (["thing"] : List Str).length -> bindArgs (PySem.W.fnOf "is_thing" "is_thing" (zam s_is_thing) (zan s_is_thing) (zao s_is_thing) .none kV doc pm an cdv ct) ⟨us, []⟩ = pure ((["thing"] : List Str).zip us) :=
  fun _ _ _ _ _ _ us hl => match us, hl with | [_], _ => rfl
theorem ok_is_thing (Xt : Txt K mg ca) : OkF ⟨K, ca⟩ P w mg base 7 "is_thing" ["thing"] f_is_thing :=
  OkF.hide (OkF.frz (zck Xt.f_is_thing sc_is_thing fun _ _ _ _ _ _ _ hr =>
    (zbo (zbl (L2.PW.pt (fw_or (ft_not (zbs (fe_isB .tuple (zbf 0) rfl Xt.n_isinstance rfl Xt.n_tuple boot_tuple))) (fw_or (zbr (zcm (hu9 hr)) sndD (zav zal (zdk rfl) rfl Xt.n_len PySem.boot_len (zas (zbf 0) zat)) zaz (zcd _)) (fw_or1 (ft_not (zbs (fe_isB .str (zba zbw (zdj rfl) (zbf 0) zaz (fun _ _ => rfl)) rfl Xt.n_isinstance rfl Xt.n_str boot_str))))))) (zbq (zbm fe_bl)) zbp)
    (zbo (zbl (zbr (zcm (hu9 hr)) sndD (zba zbw (zdj rfl) (zbf 0) zaz (fun _ _ => rfl)) zbd (zcd _)) (zbq (zbm (zau (fe_cmp (zcm (hu9 hr)) sndD (zav zal (zdk rfl) rfl Xt.n_len PySem.boot_len (zas (zbf 0) zat)) zaz (zcd _)) (fe_one (zaw (ok_is_word Xt) rfl (hr.mono (by decide)) rfl (zas (zba zbw (zdj rfl) (zbf 0) zaz (fun _ _ => rfl)) zat)))))) zbp)
    (zbo (zbl (zbr (zcm (hu9 hr)) sndD (zba zbw (zdj rfl) (zbf 0) zaz (fun _ _ => rfl)) zbd (zcd _)) (zbq (zbm (zau (zaw (ok_is_of_a_side Xt) rfl (hr.mono (by decide)) rfl (zas (zbf 0) zat)) (fe_one (zaw (ok_is_number Xt) rfl (hr.mono (by decide)) rfl (zas (zba zbw (zdj rfl) (zbf 0) zaz (fun _ _ => rfl)) zat)))))) zbp)
    (zbo (zbl (zbr (zcm (hu9 hr)) sndD (zba zbw (zdj rfl) (zbf 0) zaz (fun _ _ => rfl)) zbd (zcd _)) (zbq (zbm (zau (zaw (ok_is_of_a_side Xt) rfl (hr.mono (by decide)) rfl (zas (zbf 0) zat)) (fe_one (zaw (ok_is_stand Xt) rfl (hr.mono (by decide)) rfl (zas (zba zbw (zdj rfl) (zbf 0) zaz (fun _ _ => rfl)) zat)))))) zbp)
    (zbq (zbm fe_bl))))))))
abbrev s_is_agreed : Stmt := top 51
noncomputable def g_is_agreed : Ev -> M Fl :=
  (zcs (eAnd (eFn 1 f_is_thing [] (zah (zar 3) zai)) (zap oEq (zar 3) (eTup (zah (eC (.str "agree")) (zah (zar 0) (zah (eFn 1 f_other_side [] (zah (zar 1) zai)) (zah (zar 2) zai))))))))
noncomputable def f_is_agreed : List D -> M D := hide fun ds => frz (run 4 g_is_agreed ds)
theorem sc_is_agreed : FnScope ["pot", "side", "stand", "agreement"] ["pot", "side", "stand", "agreement"] (zao s_is_agreed) := ⟨rfl, rfl, rfl, by decide +kernel, rfl, by decide +kernel, by decide +kernel⟩
theorem bd_is_agreed : ∀ (kV doc pm : Value) (an : Option Addr) (cdv ct : Value) (us : List Value), us.length = (["pot", "side", "stand", "agreement"] : List Str).length -> bindArgs (PySem.W.fnOf "is_agreed" "is_agreed" (zam s_is_agreed) (zan s_is_agreed) (zao s_is_agreed) .none kV doc pm an cdv ct) ⟨us, []⟩ = pure ((["pot", "side", "stand", "agreement"] : List Str).zip us) :=
  fun _ _ _ _ _ _ us hl => match us, hl with | [_, _, _, _], _ => rfl
theorem ok_is_agreed (Xt : Txt K mg ca) : OkF ⟨K, ca⟩ P w mg base 8 "is_agreed" ["pot", "side", "stand", "agreement"] f_is_agreed :=
  OkF.hide (OkF.frz (zck Xt.f_is_agreed sc_is_agreed fun _ _ _ _ _ _ _ hr =>
    (zbq (zbm (zau (zaw (ok_is_thing Xt) rfl (hr.mono (by decide)) rfl (zas (zbf 3) zat)) (fe_one (fe_cmp (zcm (hu9 hr)) sndD (zbf 3) (zbe (zas zbd (zas (zbf 0) (zas (zaw (ok_other_side Xt) rfl (hr.mono (by decide)) rfl (zas (zbf 1) zat)) (zas (zbf 2) zat))))) (zcd _))))))))
abbrev s_stand : Stmt := top 30
noncomputable def g_stand : Ev -> M Fl :=
  (zct (sSet 3 (eTup (zah (zar 0) (zah (zar 1) (zah (eIf (eT (zap oIsN (zar 2) (eC .non))) (eTup zai) (zar 2)) zai)))))
  (zct (sIf (bNot (eT (eFn 1 f_is_stand [] (zah (zar 3) zai)))) (sRaise 1 (zah (eC (.str "number, shares and ties make no stand")) zai)) sNil)
  (zcs (zar 3))))
noncomputable def f_stand : List D -> M D := hide fun ds => frz (run 4 g_stand ds)
theorem sc_stand : FnScope ["number", "shares", "ties", "made"] ["number", "shares", "ties"] (zao s_stand) := ⟨rfl, rfl, rfl, by decide +kernel, rfl, by decide +kernel, by decide +kernel⟩
theorem bd_stand (t : Addr) (kV doc pm : Value) (an : Option Addr) (cdv ct : Value) (s : Shared) (o : Obj) (n : Nat) (us : List Value) (h1 : s.heap.get? t = some o) (h2 : o.data = .seq ([Value.none] : List Value).toArray n) :
    ((us ++ []).length = (["number", "shares", "ties"] : List Str).length -> BindsTo s (PySem.W.fnOf "stand" "stand" (zam s_stand) (zan s_stand) (zao s_stand) (.ref t) kV doc pm an cdv ct) ⟨us, []⟩ ((["number", "shares", "ties"] : List Str).zip (us ++ []))) /\
    ((us ++ [Value.none]).length = (["number", "shares", "ties"] : List Str).length -> BindsTo s (PySem.W.fnOf "stand" "stand" (zam s_stand) (zan s_stand) (zao s_stand) (.ref t) kV doc pm an cdv ct) ⟨us, []⟩ ((["number", "shares", "ties"] : List Str).zip (us ++ [Value.none]))) :=
  ⟨fun hl => match us, (show us.length = 3 by simpa using hl) with | [_, _, _], _ => BindsTo.of_defaults rfl h1 h2 rfl rfl, fun hl => match us, (show us.length = 2 by simpa using hl) with | [_, _], _ => BindsTo.of_defaults rfl h1 h2 rfl rfl⟩
theorem ok_stand (Xt : Txt K mg ca) : OkD ⟨K, ca⟩ P w mg base 7 "stand" ["number", "shares", "ties"] [Value.none] f_stand :=
  OkD.hide (OkD.frz (ok_ofD Xt.f_stand sc_stand fun _ _ _ _ _ _ _ hr =>
    (zbo (zbn (i := 3) sc_stand.nd rfl (Or.inl rfl) (zbe (zas (zbf 0) (zas (zbf 1) (zas (fe_ifExp (zbr op_isN snd_isN (zbf 2) fe_non (zcd _)) (zbe zat) (zbf 2)) zat)))))
    (zbo (zbl (ft_not (zbs (zaw (ok_is_stand Xt) rfl (hr.mono (by decide)) rfl (zas (zbf 3) zat)))) (zbq (fs_raise 1 PySem.F.excBase_ValueError rfl Xt.x_NoStand Xt.m_NoStand rfl rfl (zas zbd zat))) zbp)
    (zbq (zbm (zbf 3)))))))
abbrev s_first : Stmt := top 31
noncomputable def g_first : Ev -> M Fl :=
  (zcs (eFn 3 f_stand [.non] (zah (eC (.int 0)) (zah (eTup (zah (zar 0) (zah (zar 1) zai))) zai))))
noncomputable def f_first : List D -> M D := hide fun ds => frz (run 2 g_first ds)
theorem sc_first : FnScope ["left", "right"] ["left", "right"] (zao s_first) := ⟨rfl, rfl, rfl, by decide +kernel, rfl, by decide +kernel, by decide +kernel⟩
theorem bd_first : ∀ (kV doc pm : Value) (an : Option Addr) (cdv ct : Value) (us : List Value), us.length = (["left", "right"] : List Str).length -> bindArgs (PySem.W.fnOf "first" "first" (zam s_first) (zan s_first) (zao s_first) .none kV doc pm an cdv ct) ⟨us, []⟩ = pure ((["left", "right"] : List Str).zip us) :=
  fun _ _ _ _ _ _ us hl => match us, hl with | [_, _], _ => rfl
theorem ok_first (Xt : Txt K mg ca) : OkF ⟨K, ca⟩ P w mg base 8 "first" ["left", "right"] f_first :=
  OkF.hide (OkF.frz (zck Xt.f_first sc_first fun _ _ _ _ _ _ _ hr =>
    (zbq (zbm (fe_callD1 (ok_stand Xt) rfl (hr.mono (by decide)) rfl vals_non repl_non (zas zaz (zas (zbe (zas (zbf 0) (zas (zbf 1) zat))) zat)))))))
abbrev s_Book_may_lie : Stmt := zcb (top 53) 5
noncomputable def g_Book_may_lie : Ev -> M Fl :=
  (zct (sIf (bNot (eT (eUn (oIsO (htab [(5, true), (6, false), (7, false), (8, false)])) (zap oIx (eUn (oFld [8] "claims") (zar 0)) (zar 1))))) (zcs (eC (.bl false))) sNil)
  (zct (sSet 5 (zap oIx (eUn (oFld [8] "pots") (zar 0)) (zar 1)))
  (zcs (eOr (zap oEq (zar 3) (eFn 2 f_first [] (zah (zap oIx (zar 5) (eC (.int 2))) (zah (zap oIx (zar 5) (eC (.int 3))) zai)))) (eFn 4 f_is_agreed [] (zah (zar 1) (zah (zar 2) (zah (zar 3) (zah (zar 4) zai)))))))))
noncomputable def f_Book_may_lie : List D -> M D := hide fun ds => frz (run 6 g_Book_may_lie ds)
theorem sc_Book_may_lie : FnScope ["self", "pot", "side", "stand", "agreement", "made"] ["self", "pot", "side", "stand", "agreement"] (zao s_Book_may_lie) := ⟨rfl, rfl, rfl, by decide +kernel, rfl, by decide +kernel, by decide +kernel⟩
theorem bd_Book_may_lie : ∀ (kV doc pm : Value) (an : Option Addr) (cdv ct : Value) (us : List Value), us.length = (["self", "pot", "side", "stand", "agreement"] : List Str).length -> bindArgs (PySem.W.fnOf "may_lie" "Book.may_lie" (zam s_Book_may_lie) (zan s_Book_may_lie) (zao s_Book_may_lie) .none kV doc pm an cdv ct) ⟨us, []⟩ = pure ((["self", "pot", "side", "stand", "agreement"] : List Str).zip us) :=
  fun _ _ _ _ _ _ us hl => match us, hl with | [_, _, _, _, _], _ => rfl
theorem ok_Book_may_lie (Xt : Txt K mg ca) : OkA ⟨K, ca⟩ P w mg base 9 (ca 27) ["self", "pot", "side", "stand", "agreement"] f_Book_may_lie :=
  OkA.hide (OkA.frz (zcg Xt.f_Book_may_lie sc_Book_may_lie fun _ _ _ _ _ _ hr =>
    (zbo (zbl (ft_not (zbs (fe_isO (l := [(5, true), (6, false), (7, false), (8, false)]) rfl (zba zbw (zdj rfl) (zax rfl (zbi (T := ⟨K, ca⟩) (c := 8) Xt.cl_Book Xt.na_Book_claims zbj) (zbf 0)) (zbf 1) (fun _ _ => rfl)) rfl Xt.n_isinstance rfl (by decide) Xt.m_Held (io_cons Xt.ik_Held Xt.io_Held_Held (io_cons Xt.ik_Laid Xt.io_Laid_Held (io_cons Xt.ik_Taken Xt.io_Taken_Held (io_cons Xt.ik_Book Xt.io_Book_Held io_nil))))))) (zbq (zbm fe_bl)) zbp)
    (zbo (zbn (i := 5) sc_Book_may_lie.nd rfl (Or.inl rfl) (zba zbw (zdj rfl) (zax rfl (zbi (T := ⟨K, ca⟩) (c := 8) Xt.cl_Book Xt.na_Book_pots zbj) (zbf 0)) (zbf 1) (fun _ _ => rfl)))
    (zbq (zbm (fe_or (fe_cmp (zcm (hu9 hr)) sndD (zbf 3) (zaw (ok_first Xt) rfl (hr.mono (by decide)) rfl (zas (zba zbw (zdj rfl) (zbf 5) zaz (fun _ _ => rfl)) (zas (zba zbw (zdj rfl) (zbf 5) zaz (fun _ _ => rfl)) zat))) (zcd _)) (fe_one (zaw (ok_is_agreed Xt) rfl (hr.mono (by decide)) rfl (zas (zbf 1) (zas (zbf 2) (zas (zbf 3) (zas (zbf 4) zat)))))))))))))
abbrev zcz : Stmt := zcb (top 43) 0
noncomputable def g_Laid___init__ : Ev -> M Fl :=
  (zct (sExp (eFn 2 f_Claim___init__ [] (zah (zar 0) (zah (zar 1) zai))))
  (zct (sPut [6, 7] "side" (zar 2) (zar 0))
  (zct (sPut [6] "stand" (zar 3) (zar 0))
  (zct (sPut [6, 8] "day" (zar 4) (zar 0))
  (sPut [6] "wait" (zar 5) (zar 0))))))
noncomputable def f_Laid___init__ : List D -> M D := hide (run 6 g_Laid___init__)
theorem sc_Laid___init__ : FnScope ["self", "whole", "side", "stand", "day", "wait"] ["self", "whole", "side", "stand", "day", "wait"] (zao zcz) := ⟨rfl, rfl, rfl, by decide +kernel, rfl, by decide +kernel, by decide +kernel⟩
theorem bd_Laid___init__ : ∀ (kV doc pm : Value) (an : Option Addr) (cdv ct : Value) (us : List Value), us.length = (["self", "whole", "side", "stand", "day", "wait"] : List Str).length -> bindArgs (PySem.W.fnOf "__init__" "Laid.__init__" (zam zcz) (zan zcz) (zao zcz) .none kV doc pm an cdv ct) ⟨us, []⟩ = pure ((["self", "whole", "side", "stand", "day", "wait"] : List Str).zip us) :=
  fun _ _ _ _ _ _ us hl => match us, hl with | [_, _, _, _, _, _], _ => rfl
theorem ok_Laid___init__ (Xt : Txt K mg ca) : OkA ⟨K, ca⟩ P w mg base 3 (ca 13) ["self", "whole", "side", "stand", "day", "wait"] f_Laid___init__ :=
  OkA.hide (zcg Xt.f_Laid___init__ sc_Laid___init__ fun _ _ _ _ _ _ hr =>
    (zbo (zbk (fe_ucall (c := 4) ⟨Xt.m_Claim, Xt.us_Claim___init__, _, _, Xt.ur_Claim___init__, Xt.uf_Claim___init__, Xt.uk_Claim___init__, ok_Claim___init__ Xt⟩ rfl (hr.mono (by decide)) rfl (zas (zbf 0) (zas (zbf 1) zat))))
    (zbo (fs_fld rfl (zbi (T := ⟨K, ca⟩) (c := 6) Xt.cl_Laid Xt.na_Laid_side (zbi (T := ⟨K, ca⟩) (c := 7) Xt.cl_Taken Xt.na_Taken_side zbj)) (zbf 0) (zbf 2))
    (zbo (fs_fld rfl (zbi (T := ⟨K, ca⟩) (c := 6) Xt.cl_Laid Xt.na_Laid_stand zbj) (zbf 0) (zbf 3))
    (zbo (fs_fld rfl (zbi (T := ⟨K, ca⟩) (c := 6) Xt.cl_Laid Xt.na_Laid_day (zbi (T := ⟨K, ca⟩) (c := 8) Xt.cl_Book Xt.na_Book_day zbj)) (zbf 0) (zbf 4))
    (zbq (fs_fld rfl (zbi (T := ⟨K, ca⟩) (c := 6) Xt.cl_Laid Xt.na_Laid_wait zbj) (zbf 0) (zbf 5))))))))
abbrev s_Book_lay : Stmt := zcb (top 53) 6
noncomputable def g_Book_lay : Ev -> M Fl :=
  (zct (sExp (eMth [(8, f_Book_check_pot)] 2 "check_pot" (zar 0) (zah (zar 1) zai)))
  (zct (sExp (eFn 1 f_check_side [] (zah (zar 2) zai)))
  (zct (sSet 5 (zap oIx (eUn (oFld [8] "pots") (zar 0)) (zar 1)))
  (zct (sIf (bNot (eT (eFn 2 f_is_stand_of [] (zah (zar 3) (zah (eFn 1 f_whole_of [] (zah (zar 5) zai)) zai))))) (sRaise 1 (zah (eC (.str "this is no stand of the pot")) zai)) sNil)
  (zct (sIf (bNot (eT (eMth [(8, f_Book_may_lie)] 5 "may_lie" (zar 0) (zah (zar 1) (zah (zar 2) (zah (zar 3) (zah (zar 4) zai))))))) (sRaise 2 (zah (eC (.str "this stand may not be laid down")) zai)) sNil)
  (sSetL (eFrz (eMake 6 6 f_Laid___init__ (zah (eFn 1 f_whole_of [] (zah (zar 5) zai)) (zah (zar 2) (zah (zar 3) (zah (eUn (oFld [6, 8] "day") (zar 0)) (zah (zap oIx (zar 5) (eC (.int 4))) zai))))))) (eUn (oFld [8] "claims") (zar 0)) (zar 1)))))))
noncomputable def f_Book_lay : List D -> M D := hide (run 6 g_Book_lay)
theorem sc_Book_lay : FnScope ["self", "pot", "side", "stand", "agreement", "made"] ["self", "pot", "side", "stand", "agreement"] (zao s_Book_lay) := ⟨rfl, rfl, rfl, by decide +kernel, rfl, by decide +kernel, by decide +kernel⟩
theorem bd_Book_lay (t : Addr) (kV doc pm : Value) (an : Option Addr) (cdv ct : Value) (s : Shared) (o : Obj) (n : Nat) (us : List Value) (h1 : s.heap.get? t = some o) (h2 : o.data = .seq ([Value.none] : List Value).toArray n) :
    ((us ++ []).length = (["self", "pot", "side", "stand", "agreement"] : List Str).length -> BindsTo s (PySem.W.fnOf "lay" "Book.lay" (zam s_Book_lay) (zan s_Book_lay) (zao s_Book_lay) (.ref t) kV doc pm an cdv ct) ⟨us, []⟩ ((["self", "pot", "side", "stand", "agreement"] : List Str).zip (us ++ []))) /\
    ((us ++ [Value.none]).length = (["self", "pot", "side", "stand", "agreement"] : List Str).length -> BindsTo s (PySem.W.fnOf "lay" "Book.lay" (zam s_Book_lay) (zan s_Book_lay) (zao s_Book_lay) (.ref t) kV doc pm an cdv ct) ⟨us, []⟩ ((["self", "pot", "side", "stand", "agreement"] : List Str).zip (us ++ [Value.none]))) :=
  ⟨fun hl => match us, (show us.length = 5 by simpa using hl) with | [_, _, _, _, _], _ => BindsTo.of_defaults rfl h1 h2 rfl rfl, fun hl => match us, (show us.length = 4 by simpa using hl) with | [_, _, _, _], _ => BindsTo.of_defaults rfl h1 h2 rfl rfl⟩
theorem ok_Book_lay (Xt : Txt K mg ca) : OkB ⟨K, ca⟩ P w mg base 10 (ca 28) ["self", "pot", "side", "stand", "agreement"] [Value.none] f_Book_lay :=
  OkB.hide (okB_of Xt.f_Book_lay sc_Book_lay fun _ _ _ _ _ _ hr =>
    (zbo (zbk (zbb (k := 3) (ps := ["self", "pot"]) rfl (zbf 0) (zbz (T := ⟨K, ca⟩) (c := 8) Xt.cl_Book Xt.me_Book_check_pot (zch Xt) (by decide) zca) (hr.mono (by decide)) (zas (zbf 1) zat)))
    (zbo (zbk (zaw (ok_check_side Xt) rfl (hr.mono (by decide)) rfl (zas (zbf 2) zat)))
    (zbo (zbn (i := 5) sc_Book_lay.nd rfl (Or.inl rfl) (zba zbw (zdj rfl) (zax rfl (zbi (T := ⟨K, ca⟩) (c := 8) Xt.cl_Book Xt.na_Book_pots zbj) (zbf 0)) (zbf 1) (fun _ _ => rfl)))
    (zbo (zbl (ft_not (zbs (zaw (ok_is_stand_of Xt) rfl (hr.mono (by decide)) rfl (zas (zbf 3) (zas (zaw (ok_whole_of Xt) rfl (hr.mono (by decide)) rfl (zas (zbf 5) zat)) zat))))) (zbq (fs_raise 1 PySem.F.excBase_ValueError rfl Xt.x_NoStand Xt.m_NoStand rfl rfl (zas zbd zat))) zbp)
    (zbo (zbl (ft_not (zbs (zbb (k := 9) (ps := ["self", "pot", "side", "stand", "agreement"]) rfl (zbf 0) (zbz (T := ⟨K, ca⟩) (c := 8) Xt.cl_Book Xt.me_Book_may_lie (ok_Book_may_lie Xt) (by decide) zca) (hr.mono (by decide)) (zas (zbf 1) (zas (zbf 2) (zas (zbf 3) (zas (zbf 4) zat))))))) (zbq (fs_raise 2 PySem.F.excBase_ValueError rfl Xt.x_NoDeed Xt.m_NoDeed rfl rfl (zas zbd zat))) zbp)
    (zbq (fs_setL (fe_frz (fe_make (c := 6) (ps := ["self", "whole", "side", "stand", "day", "wait"]) ⟨_, Xt.m_Laid, Xt.mk_Laid, ok_Laid___init__ Xt⟩ rfl (hr.mono (by decide)) rfl (zas (zaw (ok_whole_of Xt) rfl (hr.mono (by decide)) rfl (zas (zbf 5) zat)) (zas (zbf 2) (zas (zbf 3) (zas (zax rfl (zbi (T := ⟨K, ca⟩) (c := 6) Xt.cl_Laid Xt.na_Laid_day (zbi (T := ⟨K, ca⟩) (c := 8) Xt.cl_Book Xt.na_Book_day zbj)) (zbf 0)) (zas (zba zbw (zdj rfl) (zbf 5) zaz (fun _ _ => rfl)) zat))))))) (zax rfl (zbi (T := ⟨K, ca⟩) (c := 8) Xt.cl_Book Xt.na_Book_claims zbj) (zbf 0)) (zbf 1)))))))))
abbrev s_Held_told : Stmt := zcb (top 42) 0
noncomputable def g_Held_told : Ev -> M Fl :=
  (zcs (eTup (zah (eC (.str "held")) zai)))
noncomputable def f_Held_told : List D -> M D := hide fun ds => frz (run 1 g_Held_told ds)
theorem sc_Held_told : FnScope ["self"] ["self"] (zao s_Held_told) := ⟨rfl, rfl, rfl, by decide +kernel, rfl, by decide +kernel, by decide +kernel⟩
theorem bd_Held_told : ∀ (kV doc pm : Value) (an : Option Addr) (cdv ct : Value) (us : List Value), us.length = (["self"] : List Str).length -> bindArgs (PySem.W.fnOf "told" "Held.told" (zam s_Held_told) (zan s_Held_told) (zao s_Held_told) .none kV doc pm an cdv ct) ⟨us, []⟩ = pure ((["self"] : List Str).zip us) :=
  fun _ _ _ _ _ _ us hl => match us, hl with | [_], _ => rfl
theorem ok_Held_told (Xt : Txt K mg ca) : OkA ⟨K, ca⟩ P w mg base 1 (ca 10) ["self"] f_Held_told :=
  OkA.hide (OkA.frz (zcg Xt.f_Held_told sc_Held_told fun _ _ _ _ _ _ hr =>
    (zbq (zbm (zbe (zas zbd zat))))))
abbrev s_Laid_told : Stmt := zcb (top 43) 1
noncomputable def g_Laid_told : Ev -> M Fl :=
  (zcs (eTup (zah (eC (.str "laid")) (zah (eUn (oFld [6, 7] "side") (zar 0)) (zah (eUn (oFld [6] "stand") (zar 0)) (zah (eUn (oFld [6, 8] "day") (zar 0)) zai))))))
noncomputable def f_Laid_told : List D -> M D := hide fun ds => frz (run 1 g_Laid_told ds)
theorem sc_Laid_told : FnScope ["self"] ["self"] (zao s_Laid_told) := ⟨rfl, rfl, rfl, by decide +kernel, rfl, by decide +kernel, by decide +kernel⟩
theorem bd_Laid_told : ∀ (kV doc pm : Value) (an : Option Addr) (cdv ct : Value) (us : List Value), us.length = (["self"] : List Str).length -> bindArgs (PySem.W.fnOf "told" "Laid.told" (zam s_Laid_told) (zan s_Laid_told) (zao s_Laid_told) .none kV doc pm an cdv ct) ⟨us, []⟩ = pure ((["self"] : List Str).zip us) :=
  fun _ _ _ _ _ _ us hl => match us, hl with | [_], _ => rfl
theorem ok_Laid_told (Xt : Txt K mg ca) : OkA ⟨K, ca⟩ P w mg base 1 (ca 14) ["self"] f_Laid_told :=
  OkA.hide (OkA.frz (zcg Xt.f_Laid_told sc_Laid_told fun _ _ _ _ _ _ hr =>
    (zbq (zbm (zbe (zas zbd (zas (zax rfl (zbi (T := ⟨K, ca⟩) (c := 6) Xt.cl_Laid Xt.na_Laid_side (zbi (T := ⟨K, ca⟩) (c := 7) Xt.cl_Taken Xt.na_Taken_side zbj)) (zbf 0)) (zas (zax rfl (zbi (T := ⟨K, ca⟩) (c := 6) Xt.cl_Laid Xt.na_Laid_stand zbj) (zbf 0)) (zas (zax rfl (zbi (T := ⟨K, ca⟩) (c := 6) Xt.cl_Laid Xt.na_Laid_day (zbi (T := ⟨K, ca⟩) (c := 8) Xt.cl_Book Xt.na_Book_day zbj)) (zbf 0)) zat)))))))))
abbrev s_Taken_told : Stmt := zcb (top 44) 1
noncomputable def g_Taken_told : Ev -> M Fl :=
  (zcs (eTup (zah (eC (.str "taken")) (zah (eUn (oFld [6, 7] "side") (zar 0)) zai))))
noncomputable def f_Taken_told : List D -> M D := hide fun ds => frz (run 1 g_Taken_told ds)
theorem sc_Taken_told : FnScope ["self"] ["self"] (zao s_Taken_told) := ⟨rfl, rfl, rfl, by decide +kernel, rfl, by decide +kernel, by decide +kernel⟩
theorem bd_Taken_told : ∀ (kV doc pm : Value) (an : Option Addr) (cdv ct : Value) (us : List Value), us.length = (["self"] : List Str).length -> bindArgs (PySem.W.fnOf "told" "Taken.told" (zam s_Taken_told) (zan s_Taken_told) (zao s_Taken_told) .none kV doc pm an cdv ct) ⟨us, []⟩ = pure ((["self"] : List Str).zip us) :=
  fun _ _ _ _ _ _ us hl => match us, hl with | [_], _ => rfl
theorem ok_Taken_told (Xt : Txt K mg ca) : OkA ⟨K, ca⟩ P w mg base 1 (ca 19) ["self"] f_Taken_told :=
  OkA.hide (OkA.frz (zcg Xt.f_Taken_told sc_Taken_told fun _ _ _ _ _ _ hr =>
    (zbq (zbm (zbe (zas zbd (zas (zax rfl (zbi (T := ⟨K, ca⟩) (c := 6) Xt.cl_Laid Xt.na_Laid_side (zbi (T := ⟨K, ca⟩) (c := 7) Xt.cl_Taken Xt.na_Taken_side zbj)) (zbf 0)) zat)))))))
abbrev s_Book_told : Stmt := zcb (top 53) 8
noncomputable def g_Book_told : Ev -> M Fl :=
  (zct (sExp (eMth [(8, f_Book_check_pot)] 2 "check_pot" (zar 0) (zah (zar 1) zai)))
  (zcs (eMth [(5, f_Held_told), (6, f_Laid_told), (7, f_Taken_told)] 1 "told" (zap oIx (eUn (oFld [8] "claims") (zar 0)) (zar 1)) zai)))
noncomputable def f_Book_told : List D -> M D := hide fun ds => frz (run 2 g_Book_told ds)
theorem sc_Book_told : FnScope ["self", "pot"] ["self", "pot"] (zao s_Book_told) := ⟨rfl, rfl, rfl, by decide +kernel, rfl, by decide +kernel, by decide +kernel⟩
theorem bd_Book_told : ∀ (kV doc pm : Value) (an : Option Addr) (cdv ct : Value) (us : List Value), us.length = (["self", "pot"] : List Str).length -> bindArgs (PySem.W.fnOf "told" "Book.told" (zam s_Book_told) (zan s_Book_told) (zao s_Book_told) .none kV doc pm an cdv ct) ⟨us, []⟩ = pure ((["self", "pot"] : List Str).zip us) :=
  fun _ _ _ _ _ _ us hl => match us, hl with | [_, _], _ => rfl
theorem zci (Xt : Txt K mg ca) : OkA ⟨K, ca⟩ P w mg base 4 (ca 30) ["self", "pot"] f_Book_told :=
  OkA.hide (OkA.frz (zcg Xt.f_Book_told sc_Book_told fun _ _ _ _ _ _ hr =>
    (zbo (zbk (zbb (k := 3) (ps := ["self", "pot"]) rfl (zbf 0) (zbz (T := ⟨K, ca⟩) (c := 8) Xt.cl_Book Xt.me_Book_check_pot (zch Xt) (by decide) zca) (hr.mono (by decide)) (zas (zbf 1) zat)))
    (zbq (zbm (fe_mth0 (k := 1) (ps := ["self"]) rfl (zba zbw (zdj rfl) (zax rfl (zbi (T := ⟨K, ca⟩) (c := 8) Xt.cl_Book Xt.na_Book_claims zbj) (zbf 0)) (zbf 1) (fun _ _ => rfl)) (zbz (T := ⟨K, ca⟩) (c := 5) Xt.cl_Held Xt.me_Held_told (ok_Held_told Xt) (by decide) (zbz (T := ⟨K, ca⟩) (c := 6) Xt.cl_Laid Xt.me_Laid_told (ok_Laid_told Xt) (by decide) (zbz (T := ⟨K, ca⟩) (c := 7) Xt.cl_Taken Xt.me_Taken_told (ok_Taken_told Xt) (by decide) zca))) (hr.mono (by decide))))))))
abbrev zcy : Stmt := zcb (top 42) 2
noncomputable def g_Held_may_strike : Ev -> M Fl :=
  (zcs (eC (.bl false)))
noncomputable def f_Held_may_strike : List D -> M D := hide fun ds => frz (run 5 g_Held_may_strike ds)
theorem sc_Held_may_strike : FnScope ["self", "pot", "side", "day", "thing"] ["self", "pot", "side", "day", "thing"] (zao zcy) := ⟨rfl, rfl, rfl, by decide +kernel, rfl, by decide +kernel, by decide +kernel⟩
theorem bd_Held_may_strike : ∀ (kV doc pm : Value) (an : Option Addr) (cdv ct : Value) (us : List Value), us.length = (["self", "pot", "side", "day", "thing"] : List Str).length -> bindArgs (PySem.W.fnOf "may_strike" "Held.may_strike" (zam zcy) (zan zcy) (zao zcy) .none kV doc pm an cdv ct) ⟨us, []⟩ = pure ((["self", "pot", "side", "day", "thing"] : List Str).zip us) :=
  fun _ _ _ _ _ _ us hl => match us, hl with | [_, _, _, _, _], _ => rfl
theorem ok_Held_may_strike (Xt : Txt K mg ca) : OkA ⟨K, ca⟩ P w mg base 1 (ca 12) ["self", "pot", "side", "day", "thing"] f_Held_may_strike :=
  OkA.hide (OkA.frz (zcg Xt.f_Held_may_strike sc_Held_may_strike fun _ _ _ _ _ _ hr =>
    (zbq (zbm fe_bl))))
abbrev s_Laid_waits : Stmt := zcb (top 43) 2
noncomputable def g_Laid_waits : Ev -> M Fl :=
  (zcs (zap oLt (zar 1) (zap oAdd (eUn (oFld [6, 8] "day") (zar 0)) (eUn (oFld [6] "wait") (zar 0)))))
noncomputable def f_Laid_waits : List D -> M D := hide fun ds => frz (run 2 g_Laid_waits ds)
theorem sc_Laid_waits : FnScope ["self", "day"] ["self", "day"] (zao s_Laid_waits) := ⟨rfl, rfl, rfl, by decide +kernel, rfl, by decide +kernel, by decide +kernel⟩
theorem bd_Laid_waits : ∀ (kV doc pm : Value) (an : Option Addr) (cdv ct : Value) (us : List Value), us.length = (["self", "day"] : List Str).length -> bindArgs (PySem.W.fnOf "waits" "Laid.waits" (zam s_Laid_waits) (zan s_Laid_waits) (zao s_Laid_waits) .none kV doc pm an cdv ct) ⟨us, []⟩ = pure ((["self", "day"] : List Str).zip us) :=
  fun _ _ _ _ _ _ us hl => match us, hl with | [_, _], _ => rfl
theorem ok_Laid_waits (Xt : Txt K mg ca) : OkA ⟨K, ca⟩ P w mg base 1 (ca 15) ["self", "day"] f_Laid_waits :=
  OkA.hide (OkA.frz (zcg Xt.f_Laid_waits sc_Laid_waits fun _ _ _ _ _ _ hr =>
    (zbq (zbm (fe_cmp op_lt snd_lt (zbf 1) (zbc (zcl rfl) sndD (zax rfl (zbi (T := ⟨K, ca⟩) (c := 6) Xt.cl_Laid Xt.na_Laid_day (zbi (T := ⟨K, ca⟩) (c := 8) Xt.cl_Book Xt.na_Book_day zbj)) (zbf 0)) (zax rfl (zbi (T := ⟨K, ca⟩) (c := 6) Xt.cl_Laid Xt.na_Laid_wait zbj) (zbf 0))) (zcd _))))))
abbrev zda : Stmt := zcb (top 43) 4
noncomputable def g_Laid_may_strike : Ev -> M Fl :=
  (zct (sIf (bOr (eT (zap oNe (zar 2) (eFn 1 f_other_side [] (zah (eUn (oFld [6, 7] "side") (zar 0)) zai)))) (bNot (eT (eMth [(6, f_Laid_waits)] 2 "waits" (zar 0) (zah (zar 3) zai))))) (zcs (eC (.bl false))) sNil)
  (zcs (eAnd (eFn 1 f_is_thing [] (zah (zar 4) zai)) (zap oEq (zar 4) (eTup (zah (eC (.str "strike")) (zah (zar 1) (zah (eUn (oFld [6, 7] "side") (zar 0)) (zah (zap oIx (eUn (oFld [6] "stand") (zar 0)) (eC (.int 0))) zai)))))))))
noncomputable def f_Laid_may_strike : List D -> M D := hide fun ds => frz (run 5 g_Laid_may_strike ds)
theorem sc_Laid_may_strike : FnScope ["self", "pot", "side", "day", "thing"] ["self", "pot", "side", "day", "thing"] (zao zda) := ⟨rfl, rfl, rfl, by decide +kernel, rfl, by decide +kernel, by decide +kernel⟩
theorem bd_Laid_may_strike : ∀ (kV doc pm : Value) (an : Option Addr) (cdv ct : Value) (us : List Value), us.length = (["self", "pot", "side", "day", "thing"] : List Str).length -> bindArgs (PySem.W.fnOf "may_strike" "Laid.may_strike" (zam zda) (zan zda) (zao zda) .none kV doc pm an cdv ct) ⟨us, []⟩ = pure ((["self", "pot", "side", "day", "thing"] : List Str).zip us) :=
  fun _ _ _ _ _ _ us hl => match us, hl with | [_, _, _, _, _], _ => rfl
theorem ok_Laid_may_strike (Xt : Txt K mg ca) : OkA ⟨K, ca⟩ P w mg base 8 (ca 17) ["self", "pot", "side", "day", "thing"] f_Laid_may_strike :=
  OkA.hide (OkA.frz (zcg Xt.f_Laid_may_strike sc_Laid_may_strike fun _ _ _ _ _ _ hr =>
    (zbo (zbl (L2.PW.pt (fw_or (zbr (op_neD (hu9 hr)) sndD (zbf 2) (zaw (ok_other_side Xt) rfl (hr.mono (by decide)) rfl (zas (zax rfl (zbi (T := ⟨K, ca⟩) (c := 6) Xt.cl_Laid Xt.na_Laid_side (zbi (T := ⟨K, ca⟩) (c := 7) Xt.cl_Taken Xt.na_Taken_side zbj)) (zbf 0)) zat)) (zcd _)) (fw_or1 (ft_not (zbs (zbb (k := 1) (ps := ["self", "day"]) rfl (zbf 0) (zbz (T := ⟨K, ca⟩) (c := 6) Xt.cl_Laid Xt.me_Laid_waits (ok_Laid_waits Xt) (by decide) zca) (hr.mono (by decide)) (zas (zbf 3) zat))))))) (zbq (zbm fe_bl)) zbp)
    (zbq (zbm (zau (zaw (ok_is_thing Xt) rfl (hr.mono (by decide)) rfl (zas (zbf 4) zat)) (fe_one (fe_cmp (zcm (hu9 hr)) sndD (zbf 4) (zbe (zas zbd (zas (zbf 1) (zas (zax rfl (zbi (T := ⟨K, ca⟩) (c := 6) Xt.cl_Laid Xt.na_Laid_side (zbi (T := ⟨K, ca⟩) (c := 7) Xt.cl_Taken Xt.na_Taken_side zbj)) (zbf 0)) (zas (zba zbw (zdj rfl) (zax rfl (zbi (T := ⟨K, ca⟩) (c := 6) Xt.cl_Laid Xt.na_Laid_stand zbj) (zbf 0)) zaz (fun _ _ => rfl)) zat))))) (zcd _)))))))))
abbrev zdc : Stmt := zcb (top 44) 3
noncomputable def g_Taken_may_strike : Ev -> M Fl :=
  (zcs (eC (.bl false)))
noncomputable def f_Taken_may_strike : List D -> M D := hide fun ds => frz (run 5 g_Taken_may_strike ds)
theorem sc_Taken_may_strike : FnScope ["self", "pot", "side", "day", "thing"] ["self", "pot", "side", "day", "thing"] (zao zdc) := ⟨rfl, rfl, rfl, by decide +kernel, rfl, by decide +kernel, by decide +kernel⟩
theorem bd_Taken_may_strike : ∀ (kV doc pm : Value) (an : Option Addr) (cdv ct : Value) (us : List Value), us.length = (["self", "pot", "side", "day", "thing"] : List Str).length -> bindArgs (PySem.W.fnOf "may_strike" "Taken.may_strike" (zam zdc) (zan zdc) (zao zdc) .none kV doc pm an cdv ct) ⟨us, []⟩ = pure ((["self", "pot", "side", "day", "thing"] : List Str).zip us) :=
  fun _ _ _ _ _ _ us hl => match us, hl with | [_, _, _, _, _], _ => rfl
theorem ok_Taken_may_strike (Xt : Txt K mg ca) : OkA ⟨K, ca⟩ P w mg base 1 (ca 21) ["self", "pot", "side", "day", "thing"] f_Taken_may_strike :=
  OkA.hide (OkA.frz (zcg Xt.f_Taken_may_strike sc_Taken_may_strike fun _ _ _ _ _ _ hr =>
    (zbq (zbm fe_bl))))
abbrev zdb : Stmt := zcb (top 44) 0
noncomputable def g_Taken___init__ : Ev -> M Fl :=
  (zct (sExp (eFn 2 f_Claim___init__ [] (zah (zar 0) (zah (zar 1) zai))))
  (sPut [6, 7] "side" (zar 2) (zar 0)))
noncomputable def f_Taken___init__ : List D -> M D := hide (run 3 g_Taken___init__)
theorem sc_Taken___init__ : FnScope ["self", "whole", "side"] ["self", "whole", "side"] (zao zdb) := ⟨rfl, rfl, rfl, by decide +kernel, rfl, by decide +kernel, by decide +kernel⟩
theorem bd_Taken___init__ : ∀ (kV doc pm : Value) (an : Option Addr) (cdv ct : Value) (us : List Value), us.length = (["self", "whole", "side"] : List Str).length -> bindArgs (PySem.W.fnOf "__init__" "Taken.__init__" (zam zdb) (zan zdb) (zao zdb) .none kV doc pm an cdv ct) ⟨us, []⟩ = pure ((["self", "whole", "side"] : List Str).zip us) :=
  fun _ _ _ _ _ _ us hl => match us, hl with | [_, _, _], _ => rfl
theorem ok_Taken___init__ (Xt : Txt K mg ca) : OkA ⟨K, ca⟩ P w mg base 3 (ca 18) ["self", "whole", "side"] f_Taken___init__ :=
  OkA.hide (zcg Xt.f_Taken___init__ sc_Taken___init__ fun _ _ _ _ _ _ hr =>
    (zbo (zbk (fe_ucall (c := 4) ⟨Xt.m_Claim, Xt.us_Claim___init__, _, _, Xt.ur_Claim___init__, Xt.uf_Claim___init__, Xt.uk_Claim___init__, ok_Claim___init__ Xt⟩ rfl (hr.mono (by decide)) rfl (zas (zbf 0) (zas (zbf 1) zat))))
    (zbq (fs_fld rfl (zbi (T := ⟨K, ca⟩) (c := 6) Xt.cl_Laid Xt.na_Laid_side (zbi (T := ⟨K, ca⟩) (c := 7) Xt.cl_Taken Xt.na_Taken_side zbj)) (zbf 0) (zbf 2)))))
abbrev s_Book_strike : Stmt := zcb (top 53) 7
noncomputable def g_Book_strike : Ev -> M Fl :=
  (zct (sExp (eMth [(8, f_Book_check_pot)] 2 "check_pot" (zar 0) (zah (zar 1) zai)))
  (zct (sExp (eFn 1 f_check_side [] (zah (zar 2) zai)))
  (zct (sIf (bNot (eT (eMth [(5, f_Held_may_strike), (6, f_Laid_may_strike), (7, f_Taken_may_strike)] 5 "may_strike" (zap oIx (eUn (oFld [8] "claims") (zar 0)) (zar 1)) (zah (zar 1) (zah (zar 2) (zah (eUn (oFld [6, 8] "day") (zar 0)) (zah (zar 3) zai))))))) (sRaise 2 (zah (eC (.str "there is nothing to strike with this")) zai)) sNil)
  (sSetL (eFrz (eMake 7 3 f_Taken___init__ (zah (eFn 1 f_whole_of [] (zah (zap oIx (eUn (oFld [8] "pots") (zar 0)) (zar 1)) zai)) (zah (zar 2) zai)))) (eUn (oFld [8] "claims") (zar 0)) (zar 1)))))
noncomputable def f_Book_strike : List D -> M D := hide (run 4 g_Book_strike)
theorem sc_Book_strike : FnScope ["self", "pot", "side", "thing"] ["self", "pot", "side", "thing"] (zao s_Book_strike) := ⟨rfl, rfl, rfl, by decide +kernel, rfl, by decide +kernel, by decide +kernel⟩
theorem bd_Book_strike : ∀ (kV doc pm : Value) (an : Option Addr) (cdv ct : Value) (us : List Value), us.length = (["self", "pot", "side", "thing"] : List Str).length -> bindArgs (PySem.W.fnOf "strike" "Book.strike" (zam s_Book_strike) (zan s_Book_strike) (zao s_Book_strike) .none kV doc pm an cdv ct) ⟨us, []⟩ = pure ((["self", "pot", "side", "thing"] : List Str).zip us) :=
  fun _ _ _ _ _ _ us hl => match us, hl with | [_, _, _, _], _ => rfl
theorem ok_Book_strike (Xt : Txt K mg ca) : OkA ⟨K, ca⟩ P w mg base 9 (ca 29) ["self", "pot", "side", "thing"] f_Book_strike :=
  OkA.hide (zcg Xt.f_Book_strike sc_Book_strike fun _ _ _ _ _ _ hr =>
    (zbo (zbk (zbb (k := 3) (ps := ["self", "pot"]) rfl (zbf 0) (zbz (T := ⟨K, ca⟩) (c := 8) Xt.cl_Book Xt.me_Book_check_pot (zch Xt) (by decide) zca) (hr.mono (by decide)) (zas (zbf 1) zat)))
    (zbo (zbk (zaw (ok_check_side Xt) rfl (hr.mono (by decide)) rfl (zas (zbf 2) zat)))
    (zbo (zbl (ft_not (zbs (zbb (k := 8) (ps := ["self", "pot", "side", "day", "thing"]) rfl (zba zbw (zdj rfl) (zax rfl (zbi (T := ⟨K, ca⟩) (c := 8) Xt.cl_Book Xt.na_Book_claims zbj) (zbf 0)) (zbf 1) (fun _ _ => rfl)) (zbz (T := ⟨K, ca⟩) (c := 5) Xt.cl_Held Xt.me_Held_may_strike (ok_Held_may_strike Xt) (by decide) (zbz (T := ⟨K, ca⟩) (c := 6) Xt.cl_Laid Xt.me_Laid_may_strike (ok_Laid_may_strike Xt) (by decide) (zbz (T := ⟨K, ca⟩) (c := 7) Xt.cl_Taken Xt.me_Taken_may_strike (ok_Taken_may_strike Xt) (by decide) zca))) (hr.mono (by decide)) (zas (zbf 1) (zas (zbf 2) (zas (zax rfl (zbi (T := ⟨K, ca⟩) (c := 6) Xt.cl_Laid Xt.na_Laid_day (zbi (T := ⟨K, ca⟩) (c := 8) Xt.cl_Book Xt.na_Book_day zbj)) (zbf 0)) (zas (zbf 3) zat))))))) (zbq (fs_raise 2 PySem.F.excBase_ValueError rfl Xt.x_NoDeed Xt.m_NoDeed rfl rfl (zas zbd zat))) zbp)
    (zbq (fs_setL (fe_frz (fe_make (c := 7) (ps := ["self", "whole", "side"]) ⟨_, Xt.m_Taken, Xt.mk_Taken, ok_Taken___init__ Xt⟩ rfl (hr.mono (by decide)) rfl (zas (zaw (ok_whole_of Xt) rfl (hr.mono (by decide)) rfl (zas (zba zbw (zdj rfl) (zax rfl (zbi (T := ⟨K, ca⟩) (c := 8) Xt.cl_Book Xt.na_Book_pots zbj) (zbf 0)) (zbf 1) (fun _ _ => rfl)) zat)) (zas (zbf 2) zat)))) (zax rfl (zbi (T := ⟨K, ca⟩) (c := 8) Xt.cl_Book Xt.na_Book_claims zbj) (zbf 0)) (zbf 1)))))))
abbrev s__law_try : Stmt := top 59
noncomputable def g__law_try : Ev -> M Fl :=
  (zct (sSet 3 (zap oMod (zap oDiv (zar 2) (eC (.int 6))) (zaq oLen (zah (zar 1) zai))))
  (zct (sSet 4 (zap oMod (zap oDiv (zar 2) (eC (.int 18))) (eC (.int 2))))
  (zct (sSet 5 (zap oAdd (zap oIx (zap oIx (zar 1) (zar 3)) (eC (.int 2))) (zap oIx (zap oIx (zar 1) (zar 3)) (eC (.int 3)))))
  (zct (sSet 6 (zap oIx (eLv (zah (eFn 2 f__law_small_stand [] (zah (zap oDiv (zar 2) (eC (.int 36))) (zah (zar 5) zai))) (zah (eTup (zah (eC (.int 0)) (zah (eTup (zah (zap oIx (zap oIx (zar 1) (zar 3)) (eC (.int 2))) (zah (zap oIx (zap oIx (zar 1) (zar 3)) (eC (.int 3))) zai))) (zah (eTup zai) zai)))) zai))) (zap oDiv (zap oMod (zap oDiv (zar 2) (eC (.int 36))) (eC (.int 5))) (eC (.int 4)))))
  (zct (sTry (sIf (eT (zap oLt (zap oMod (zar 2) (eC (.int 6))) (eC (.int 2)))) (sExp (eMth [(8, f_Book_next_day)] 1 "next_day" (zar 0) zai)) (sIf (eT (zap oLt (zap oMod (zar 2) (eC (.int 6))) (eC (.int 4)))) (sExp (eMth [(8, f_Book_show)] 3 "show" (zar 0) (zah (zar 3) (zah (zap oMod (zap oDiv (zar 2) (eC (.int 18))) (eC (.int 12))) zai)))) (sIf (eT (zap oEq (zap oMod (zar 2) (eC (.int 6))) (eC (.int 4)))) (sExp (eMth [(8, f_Book_lay)] 5 "lay" (zar 0) (zah (zar 3) (zah (zar 4) (zah (zar 6) (zah (eTup (zah (eC (.str "agree")) (zah (zar 3) (zah (zap oSub (eC (.int 1)) (zar 4)) (zah (zar 6) zai))))) zai)))))) (sIf (bAnd (eT (zap oEq (zap oMod (zap oDiv (zar 2) (eC (.int 36))) (eC (.int 3))) (eC (.int 0)))) (eT (zap oEq (zap oIx (eMth [(8, f_Book_told)] 2 "told" (zar 0) (zah (zar 3) zai)) (eC (.int 0))) (eC (.str "laid"))))) (sExp (eMth [(8, f_Book_strike)] 4 "strike" (zar 0) (zah (zar 3) (zah (zap oSub (eC (.int 1)) (zap oIx (eMth [(8, f_Book_told)] 2 "told" (zar 0) (zah (zar 3) zai)) (eC (.int 1)))) (zah (eTup (zah (eC (.str "strike")) (zah (zar 3) (zah (zap oIx (eMth [(8, f_Book_told)] 2 "told" (zar 0) (zah (zar 3) zai)) (eC (.int 1))) (zah (zap oIx (zap oIx (eMth [(8, f_Book_told)] 2 "told" (zar 0) (zah (zar 3) zai)) (eC (.int 2))) (eC (.int 0))) zai))))) zai))))) sNil)))) (⟨(htab [(0, false), (1, false), (2, true)]), none, (sSet 3 (eUn oNeg (eC (.int 1))))⟩ :: []))
  (zcs (zar 3)))))))
noncomputable def f__law_try : List D -> M D := hide (run 7 g__law_try)
theorem sc__law_try : FnScope ["_law_book", "_law_pots_here", "_law_cell", "_law_pot", "_law_side", "_law_whole", "_law_one"] ["_law_book", "_law_pots_here", "_law_cell"] (zao s__law_try) := ⟨rfl, rfl, rfl, by decide +kernel, rfl, by decide +kernel, by decide +kernel⟩
theorem bd__law_try : ∀ (kV doc pm : Value) (an : Option Addr) (cdv ct : Value) (us : List Value), us.length = (["_law_book", "_law_pots_here", "_law_cell"] : List Str).length -> bindArgs (PySem.W.fnOf "_law_try" "_law_try" (zam s__law_try) (zan s__law_try) (zao s__law_try) .none kV doc pm an cdv ct) ⟨us, []⟩ = pure ((["_law_book", "_law_pots_here", "_law_cell"] : List Str).zip us) :=
  fun _ _ _ _ _ _ us hl => match us, hl with | [_, _, _], _ => rfl
theorem ok__law_try (Xt : Txt K mg ca) : OkF ⟨K, ca⟩ P w mg base 11 "_law_try" ["_law_book", "_law_pots_here", "_law_cell"] f__law_try :=
  OkF.hide (zck Xt.f__law_try sc__law_try fun _ _ _ _ _ _ _ hr =>
    (zbo (zbn (i := 3) sc__law_try.nd rfl (Or.inl rfl) (zbc zco zdl (zbc zcn zdi (zbf 2) zaz) (zav zal (zdk rfl) rfl Xt.n_len PySem.boot_len (zas (zbf 1) zat))))
    (zbo (zbn (i := 4) sc__law_try.nd rfl (Or.inl rfl) (zbc zco zdl (zbc zcn zdi (zbf 2) zaz) zaz))
    (zbo (zbn (i := 5) sc__law_try.nd rfl (Or.inl rfl) (zbc (zcl rfl) sndD (zba zbw (zdj rfl) (zba zbw (zdj rfl) (zbf 1) (zbf 3) (fun _ _ => rfl)) zaz (fun _ _ => rfl)) (zba zbw (zdj rfl) (zba zbw (zdj rfl) (zbf 1) (zbf 3) (fun _ _ => rfl)) zaz (fun _ _ => rfl))))
    (zbo (zbn (i := 6) sc__law_try.nd rfl (Or.inl rfl) (zba zbw (zdj rfl) (fe_lv (zas (zaw (ok__law_small_stand Xt) rfl (hr.mono (by decide)) rfl (zas (zbc zcn zdi (zbf 2) zaz) (zas (zbf 5) zat))) (zas (zbe (zas zaz (zas (zbe (zas (zba zbw (zdj rfl) (zba zbw (zdj rfl) (zbf 1) (zbf 3) (fun _ _ => rfl)) zaz (fun _ _ => rfl)) (zas (zba zbw (zdj rfl) (zba zbw (zdj rfl) (zbf 1) (zbf 3) (fun _ _ => rfl)) zaz (fun _ _ => rfl)) zat))) (zas (zbe zat) zat)))) zat))) (zbc zcn zdi (zbc zco zdl (zbc zcn zdi (zbf 2) zaz) zaz) zaz) (fun _ _ => rfl)))
    (zbo (fs_try rfl rfl (fun _ _ hpo => (zbq (zbl (zbr op_lt snd_lt (zbc zco zdl (zbf 2) zaz) zaz (zcd _)) (zbq (zbk (fe_mth0 (k := 1) (ps := ["self"]) rfl (zbf 0) (zbz (T := ⟨K, ca⟩) (c := 8) Xt.cl_Book Xt.me_Book_next_day (ok_Book_next_day Xt) (by decide) zca) (hr.mono (by decide))))) (zbq (zbl (zbr op_lt snd_lt (zbc zco zdl (zbf 2) zaz) zaz (zcd _)) (zbq (zbk (zbb (k := 4) (ps := ["self", "pot", "word"]) rfl (zbf 0) (zbz (T := ⟨K, ca⟩) (c := 8) Xt.cl_Book Xt.me_Book_show (ok_Book_show Xt) (by decide) zca) (hr.mono (by decide)) (zas (zbf 3) (zas (zbc zco zdl (zbc zcn zdi (zbf 2) zaz) zaz) zat))))) (zbq (zbl (zbr (zcm (hu9 hr)) sndD (zbc zco zdl (zbf 2) zaz) zaz (zcd _)) (zbq (zbk (fe_mthB (k := 10) (c := 8) (ps := ["self", "pot", "side", "stand", "agreement"]) rfl (zbf 0) Xt.cl_Book Xt.me_Book_lay (ok_Book_lay Xt) (hr.mono (by decide)) (zas (zbf 3) (zas (zbf 4) (zas (zbf 6) (zas (zbe (zas zbd (zas (zbf 3) (zas (zbc op_sub snd_sub zaz (zbf 4)) (zas (zbf 6) zat))))) zat))))))) (zbq (zbl (L2.PW.pt (fw_and (zbr (zcm (hu9 hr)) sndD (zbc zco zdl (zbc zcn zdi (zbf 2) zaz) zaz) zaz (zcd _)) (fw_and1 (zbr (zcm (hu9 hr)) sndD (zba zbw (zdj rfl) (zbb (k := 4) (ps := ["self", "pot"]) rfl (zbf 0) (zbz (T := ⟨K, ca⟩) (c := 8) Xt.cl_Book Xt.me_Book_told (zci Xt) (by decide) zca) (hr.mono (by decide)) (zas (zbf 3) zat)) zaz (fun _ _ => rfl)) zbd (zcd _))))) (zbq (zbk (zbb (k := 9) (ps := ["self", "pot", "side", "thing"]) rfl (zbf 0) (zbz (T := ⟨K, ca⟩) (c := 8) Xt.cl_Book Xt.me_Book_strike (ok_Book_strike Xt) (by decide) zca) (hr.mono (by decide)) (zas (zbf 3) (zas (zbc op_sub snd_sub zaz (zba zbw (zdj rfl) (zbb (k := 4) (ps := ["self", "pot"]) rfl (zbf 0) (zbz (T := ⟨K, ca⟩) (c := 8) Xt.cl_Book Xt.me_Book_told (zci Xt) (by decide) zca) (hr.mono (by decide)) (zas (zbf 3) zat)) zaz (fun _ _ => rfl))) (zas (zbe (zas zbd (zas (zbf 3) (zas (zba zbw (zdj rfl) (zbb (k := 4) (ps := ["self", "pot"]) rfl (zbf 0) (zbz (T := ⟨K, ca⟩) (c := 8) Xt.cl_Book Xt.me_Book_told (zci Xt) (by decide) zca) (hr.mono (by decide)) (zas (zbf 3) zat)) zaz (fun _ _ => rfl)) (zas (zba zbw (zdj rfl) (zba zbw (zdj rfl) (zbb (k := 4) (ps := ["self", "pot"]) rfl (zbf 0) (zbz (T := ⟨K, ca⟩) (c := 8) Xt.cl_Book Xt.me_Book_told (zci Xt) (by decide) zca) (hr.mono (by decide)) (zas (zbf 3) zat)) zaz (fun _ _ => rfl)) zaz (fun _ _ => rfl)) zat))))) zat)))))) zbp))))))))) (.cons rfl (by decide) (.inl Xt.m_NoDeed) (ht_of (ht_cons Xt.e_BookError_NoDeed (ht_cons Xt.e_NoStand_NoDeed (ht_cons Xt.e_NoDeed_NoDeed ht_nil)))) (fun _ => (zbq (zbn (i := 3) sc__law_try.nd rfl (Or.inl rfl) (fe_un un_neg snd_neg zaz)))) .nil))
    (zbq (zbm (zbf 3)))))))))
abbrev s_Held_comes : Stmt := zcb (top 42) 1
noncomputable def g_Held_comes : Ev -> M Fl :=
  (zcs (eTup (zah (eC (.int 0)) (zah (eC (.int 0)) (zah (eUn (oFld [4, 5, 6, 7] "whole") (zar 0)) zai)))))
noncomputable def f_Held_comes : List D -> M D := hide fun ds => frz (run 3 g_Held_comes ds)
theorem sc_Held_comes : FnScope ["self", "day", "shown"] ["self", "day", "shown"] (zao s_Held_comes) := ⟨rfl, rfl, rfl, by decide +kernel, rfl, by decide +kernel, by decide +kernel⟩
theorem bd_Held_comes : ∀ (kV doc pm : Value) (an : Option Addr) (cdv ct : Value) (us : List Value), us.length = (["self", "day", "shown"] : List Str).length -> bindArgs (PySem.W.fnOf "comes" "Held.comes" (zam s_Held_comes) (zan s_Held_comes) (zao s_Held_comes) .none kV doc pm an cdv ct) ⟨us, []⟩ = pure ((["self", "day", "shown"] : List Str).zip us) :=
  fun _ _ _ _ _ _ us hl => match us, hl with | [_, _, _], _ => rfl
theorem ok_Held_comes (Xt : Txt K mg ca) : OkA ⟨K, ca⟩ P w mg base 1 (ca 11) ["self", "day", "shown"] f_Held_comes :=
  OkA.hide (OkA.frz (zcg Xt.f_Held_comes sc_Held_comes fun _ _ _ _ _ _ hr =>
    (zbq (zbm (zbe (zas zaz (zas zaz (zas (zax rfl (zbi (T := ⟨K, ca⟩) (c := 4) Xt.cl_Claim Xt.na_Claim_whole (zbi (T := ⟨K, ca⟩) (c := 5) Xt.cl_Held Xt.na_Held_whole (zbi (T := ⟨K, ca⟩) (c := 6) Xt.cl_Laid Xt.na_Laid_whole (zbi (T := ⟨K, ca⟩) (c := 7) Xt.cl_Taken Xt.na_Taken_whole zbj)))) (zbf 0)) zat))))))))
abbrev zde : Stmt := top 35
noncomputable def g_shown_in_time : Ev -> M Fl :=
  (zcs (eAnd (zap oDIn (zap oIx (zar 0) (eC (.int 2))) (zar 1)) (zap oLt (zap oDGet (zar 1) (zap oIx (zar 0) (eC (.int 2)))) (zap oIx (zar 0) (eC (.int 3))))))
noncomputable def f_shown_in_time : List D -> M D := hide fun ds => frz (run 2 g_shown_in_time ds)
theorem sc_shown_in_time : FnScope ["tie", "shown"] ["tie", "shown"] (zao zde) := ⟨rfl, rfl, rfl, by decide +kernel, rfl, by decide +kernel, by decide +kernel⟩
theorem bd_shown_in_time : ∀ (kV doc pm : Value) (an : Option Addr) (cdv ct : Value) (us : List Value), us.length = (["tie", "shown"] : List Str).length -> bindArgs (PySem.W.fnOf "shown_in_time" "shown_in_time" (zam zde) (zan zde) (zao zde) .none kV doc pm an cdv ct) ⟨us, []⟩ = pure ((["tie", "shown"] : List Str).zip us) :=
  fun _ _ _ _ _ _ us hl => match us, hl with | [_, _], _ => rfl
theorem ok_shown_in_time (Xt : Txt K mg ca) : OkF ⟨K, ca⟩ P w mg base 1 "shown_in_time" ["tie", "shown"] f_shown_in_time :=
  OkF.hide (OkF.frz (zck Xt.f_shown_in_time sc_shown_in_time fun _ _ _ _ _ _ _ hr =>
    (zbq (zbm (zau (fe_cmp (op_din (hu9 hr)) snd_din (zba zbw (zdj rfl) (zbf 0) zaz (fun _ _ => rfl)) (zbf 1) rfl) (fe_one (fe_cmp op_lt snd_lt (fe_dget (hu9 hr) (zbf 1) (zba zbw (zdj rfl) (zbf 0) zaz (fun _ _ => rfl)) (fun _ _ => rfl)) (zba zbw (zdj rfl) (zbf 0) zaz (fun _ _ => rfl)) (zcd _))))))))
abbrev s_side_due : Stmt := top 40
noncomputable def g_side_due : Ev -> M Fl :=
  (zct (sIf (eT (eFn 2 f_shown_in_time [] (zah (zar 0) (zah (zar 2) zai)))) (zcs (eFn 1 f_other_side [] (zah (zap oIx (zar 0) (eC (.int 0))) zai))) sNil)
  (zct (sIf (eT (zap oGe (zar 1) (zap oIx (zar 0) (eC (.int 3))))) (zcs (zap oIx (zar 0) (eC (.int 0)))) sNil)
  (zcs (eC .non))))
noncomputable def f_side_due : List D -> M D := hide fun ds => frz (run 3 g_side_due ds)
theorem sc_side_due : FnScope ["tie", "day", "shown"] ["tie", "day", "shown"] (zao s_side_due) := ⟨rfl, rfl, rfl, by decide +kernel, rfl, by decide +kernel, by decide +kernel⟩
theorem bd_side_due : ∀ (kV doc pm : Value) (an : Option Addr) (cdv ct : Value) (us : List Value), us.length = (["tie", "day", "shown"] : List Str).length -> bindArgs (PySem.W.fnOf "side_due" "side_due" (zam s_side_due) (zan s_side_due) (zao s_side_due) .none kV doc pm an cdv ct) ⟨us, []⟩ = pure ((["tie", "day", "shown"] : List Str).zip us) :=
  fun _ _ _ _ _ _ us hl => match us, hl with | [_, _, _], _ => rfl
theorem ok_side_due (Xt : Txt K mg ca) : OkF ⟨K, ca⟩ P w mg base 2 "side_due" ["tie", "day", "shown"] f_side_due :=
  OkF.hide (OkF.frz (zck Xt.f_side_due sc_side_due fun _ _ _ _ _ _ _ hr =>
    (zbo (zbl (zbs (zaw (ok_shown_in_time Xt) rfl (hr.mono (by decide)) rfl (zas (zbf 0) (zas (zbf 2) zat)))) (zbq (zbm (zaw (ok_other_side Xt) rfl (hr.mono (by decide)) rfl (zas (zba zbw (zdj rfl) (zbf 0) zaz (fun _ _ => rfl)) zat)))) zbp)
    (zbo (zbl (zbr op_ge snd_ge (zbf 1) (zba zbw (zdj rfl) (zbf 0) zaz (fun _ _ => rfl)) (zcd _)) (zbq (zbm (zba zbw (zdj rfl) (zbf 0) zaz (fun _ _ => rfl)))) zbp)
    (zbq (zbm fe_non))))))
abbrev s_with_more : Stmt := top 34
noncomputable def g_with_more : Ev -> M Fl :=
  (zct (sIf (eT (zap oEq (zar 1) (eC (.int 0)))) (zcs (eTup (zah (zap oAdd (zap oIx (zar 0) (eC (.int 0))) (zar 2)) (zah (zap oIx (zar 0) (eC (.int 1))) zai)))) sNil)
  (zcs (eTup (zah (zap oIx (zar 0) (eC (.int 0))) (zah (zap oAdd (zap oIx (zar 0) (eC (.int 1))) (zar 2)) zai)))))
noncomputable def f_with_more : List D -> M D := hide fun ds => frz (run 3 g_with_more ds)
theorem sc_with_more : FnScope ["shares", "side", "amount"] ["shares", "side", "amount"] (zao s_with_more) := ⟨rfl, rfl, rfl, by decide +kernel, rfl, by decide +kernel, by decide +kernel⟩
theorem bd_with_more : ∀ (kV doc pm : Value) (an : Option Addr) (cdv ct : Value) (us : List Value), us.length = (["shares", "side", "amount"] : List Str).length -> bindArgs (PySem.W.fnOf "with_more" "with_more" (zam s_with_more) (zan s_with_more) (zao s_with_more) .none kV doc pm an cdv ct) ⟨us, []⟩ = pure ((["shares", "side", "amount"] : List Str).zip us) :=
  fun _ _ _ _ _ _ us hl => match us, hl with | [_, _, _], _ => rfl
theorem ok_with_more (Xt : Txt K mg ca) : OkF ⟨K, ca⟩ P w mg base 1 "with_more" ["shares", "side", "amount"] f_with_more :=
  OkF.hide (OkF.frz (zck Xt.f_with_more sc_with_more fun _ _ _ _ _ _ _ hr =>
    (zbo (zbl (zbr (zcm (hu9 hr)) sndD (zbf 1) zaz (zcd _)) (zbq (zbm (zbe (zas (zbc (zcl rfl) sndD (zba zbw (zdj rfl) (zbf 0) zaz (fun _ _ => rfl)) (zbf 2)) (zas (zba zbw (zdj rfl) (zbf 0) zaz (fun _ _ => rfl)) zat))))) zbp)
    (zbq (zbm (zbe (zas (zba zbw (zdj rfl) (zbf 0) zaz (fun _ _ => rfl)) (zas (zbc (zcl rfl) sndD (zba zbw (zdj rfl) (zbf 0) zaz (fun _ _ => rfl)) (zbf 2)) zat))))))))
abbrev s_Laid_comes : Stmt := zcb (top 43) 3
noncomputable def g_Laid_comes : Ev -> M Fl :=
  (zct (sIf (eT (eMth [(6, f_Laid_waits)] 2 "waits" (zar 0) (zah (zar 1) zai))) (zcs (eTup (zah (eC (.int 0)) (zah (eC (.int 0)) (zah (eUn (oFld [4, 5, 6, 7] "whole") (zar 0)) zai))))) sNil)
  (zct (sSet 3 (zap oIx (eUn (oFld [6] "stand") (zar 0)) (eC (.int 1))))
  (zct (sFor (srcS (zap oIx (eUn (oFld [6] "stand") (zar 0)) (eC (.int 2)))) (tgN 4) (zct (sSet 5 (eFn 3 f_side_due [] (zah (zar 4) (zah (zar 1) (zah (zar 2) zai)))))
  (sIf (eT (zap oNotN (zar 5) (eC .non))) (sSet 3 (eFn 3 f_with_more [] (zah (zar 3) (zah (zar 5) (zah (zap oIx (zar 4) (eC (.int 1))) zai))))) sNil)))
  (zcs (eTup (zah (zap oIx (zar 3) (eC (.int 0))) (zah (zap oIx (zar 3) (eC (.int 1))) (zah (zap oSub (eUn (oFld [4, 5, 6, 7] "whole") (zar 0)) (zaq oSum (zah (zar 3) zai))) zai))))))))
noncomputable def f_Laid_comes : List D -> M D := hide fun ds => frz (run 6 g_Laid_comes ds)
theorem zdg : FnScope ["self", "day", "shown", "due", "tie", "side"] ["self", "day", "shown"] (zao s_Laid_comes) := ⟨rfl, rfl, rfl, by decide +kernel, rfl, by decide +kernel, by decide +kernel⟩
theorem bd_Laid_comes : ∀ (kV doc pm : Value) (an : Option Addr) (cdv ct : Value) (us : List Value), us.length = (["self", "day", "shown"] : List Str).length -> bindArgs (PySem.W.fnOf "comes" "Laid.comes" (zam s_Laid_comes) (zan s_Laid_comes) (zao s_Laid_comes) .none kV doc pm an cdv ct) ⟨us, []⟩ = pure ((["self", "day", "shown"] : List Str).zip us) :=
  fun _ _ _ _ _ _ us hl => match us, hl with | [_, _, _], _ => rfl
theorem ok_Laid_comes (Xt : Txt K mg ca) : OkA ⟨K, ca⟩ P w mg base 3 (ca 16) ["self", "day", "shown"] f_Laid_comes :=
  OkA.hide (OkA.frz (zcg Xt.f_Laid_comes zdg fun _ _ _ _ _ _ hr =>
    (zbo (zbl (zbs (zbb (k := 1) (ps := ["self", "day"]) rfl (zbf 0) (zbz (T := ⟨K, ca⟩) (c := 6) Xt.cl_Laid Xt.me_Laid_waits (ok_Laid_waits Xt) (by decide) zca) (hr.mono (by decide)) (zas (zbf 1) zat))) (zbq (zbm (zbe (zas zaz (zas zaz (zas (zax rfl (zbi (T := ⟨K, ca⟩) (c := 4) Xt.cl_Claim Xt.na_Claim_whole (zbi (T := ⟨K, ca⟩) (c := 5) Xt.cl_Held Xt.na_Held_whole (zbi (T := ⟨K, ca⟩) (c := 6) Xt.cl_Laid Xt.na_Laid_whole (zbi (T := ⟨K, ca⟩) (c := 7) Xt.cl_Taken Xt.na_Taken_whole zbj)))) (zbf 0)) zat)))))) zbp)
    (zbo (zbn (i := 3) zdg.nd rfl (Or.inl rfl) (zba zbw (zdj rfl) (zax rfl (zbi (T := ⟨K, ca⟩) (c := 6) Xt.cl_Laid Xt.na_Laid_stand zbj) (zbf 0)) zaz (fun _ _ => rfl)))
    (zbo (fs_for zcp rfl (fi_seq rfl (zba zbw (zdj rfl) (zax rfl (zbi (T := ⟨K, ca⟩) (c := 6) Xt.cl_Laid Xt.na_Laid_stand zbj) (zbf 0)) zaz (fun _ _ => rfl))) (zbg (i := 4) zdg.nd rfl (Or.inl rfl)) (zbo (zbn (i := 5) zdg.nd rfl (Or.inl rfl) (zaw (ok_side_due Xt) rfl (hr.mono (by decide)) rfl (zas (zbf 4) (zas (zbf 1) (zas (zbf 2) zat)))))
    (zbq (zbl (zbr op_notN snd_notN (zbf 5) fe_non (zcd _)) (zbq (zbn (i := 3) zdg.nd rfl (Or.inl rfl) (zaw (ok_with_more Xt) rfl (hr.mono (by decide)) rfl (zas (zbf 3) (zas (zbf 5) (zas (zba zbw (zdj rfl) (zbf 4) zaz (fun _ _ => rfl)) zat)))))) zbp))))
    (zbq (zbm (zbe (zas (zba zbw (zdj rfl) (zbf 3) zaz (fun _ _ => rfl)) (zas (zba zbw (zdj rfl) (zbf 3) zaz (fun _ _ => rfl)) (zas (zbc op_sub snd_sub (zax rfl (zbi (T := ⟨K, ca⟩) (c := 4) Xt.cl_Claim Xt.na_Claim_whole (zbi (T := ⟨K, ca⟩) (c := 5) Xt.cl_Held Xt.na_Held_whole (zbi (T := ⟨K, ca⟩) (c := 6) Xt.cl_Laid Xt.na_Laid_whole (zbi (T := ⟨K, ca⟩) (c := 7) Xt.cl_Taken Xt.na_Taken_whole zbj)))) (zbf 0)) (zav (call_sumI rfl) (snd_sum rfl) rfl Xt.n_sum boot_sum (zas (zbf 3) zat))) zat)))))))))))
abbrev s_Taken_comes : Stmt := zcb (top 44) 2
noncomputable def g_Taken_comes : Ev -> M Fl :=
  (zct (sSet 3 (eFn 3 f_with_more [] (zah (eTup (zah (eC (.int 0)) (zah (eC (.int 0)) zai))) (zah (eUn (oFld [6, 7] "side") (zar 0)) (zah (eUn (oFld [4, 5, 6, 7] "whole") (zar 0)) zai)))))
  (zcs (eTup (zah (zap oIx (zar 3) (eC (.int 0))) (zah (zap oIx (zar 3) (eC (.int 1))) (zah (eC (.int 0)) zai))))))
noncomputable def f_Taken_comes : List D -> M D := hide fun ds => frz (run 4 g_Taken_comes ds)
theorem sc_Taken_comes : FnScope ["self", "day", "shown", "shares"] ["self", "day", "shown"] (zao s_Taken_comes) := ⟨rfl, rfl, rfl, by decide +kernel, rfl, by decide +kernel, by decide +kernel⟩
theorem bd_Taken_comes : ∀ (kV doc pm : Value) (an : Option Addr) (cdv ct : Value) (us : List Value), us.length = (["self", "day", "shown"] : List Str).length -> bindArgs (PySem.W.fnOf "comes" "Taken.comes" (zam s_Taken_comes) (zan s_Taken_comes) (zao s_Taken_comes) .none kV doc pm an cdv ct) ⟨us, []⟩ = pure ((["self", "day", "shown"] : List Str).zip us) :=
  fun _ _ _ _ _ _ us hl => match us, hl with | [_, _, _], _ => rfl
theorem ok_Taken_comes (Xt : Txt K mg ca) : OkA ⟨K, ca⟩ P w mg base 2 (ca 20) ["self", "day", "shown"] f_Taken_comes :=
  OkA.hide (OkA.frz (zcg Xt.f_Taken_comes sc_Taken_comes fun _ _ _ _ _ _ hr =>
    (zbo (zbn (i := 3) sc_Taken_comes.nd rfl (Or.inl rfl) (zaw (ok_with_more Xt) rfl (hr.mono (by decide)) rfl (zas (zbe (zas zaz (zas zaz zat))) (zas (zax rfl (zbi (T := ⟨K, ca⟩) (c := 6) Xt.cl_Laid Xt.na_Laid_side (zbi (T := ⟨K, ca⟩) (c := 7) Xt.cl_Taken Xt.na_Taken_side zbj)) (zbf 0)) (zas (zax rfl (zbi (T := ⟨K, ca⟩) (c := 4) Xt.cl_Claim Xt.na_Claim_whole (zbi (T := ⟨K, ca⟩) (c := 5) Xt.cl_Held Xt.na_Held_whole (zbi (T := ⟨K, ca⟩) (c := 6) Xt.cl_Laid Xt.na_Laid_whole (zbi (T := ⟨K, ca⟩) (c := 7) Xt.cl_Taken Xt.na_Taken_whole zbj)))) (zbf 0)) zat)))))
    (zbq (zbm (zbe (zas (zba zbw (zdj rfl) (zbf 3) zaz (fun _ _ => rfl)) (zas (zba zbw (zdj rfl) (zbf 3) zaz (fun _ _ => rfl)) (zas zaz zat)))))))))
abbrev s_Book_due_of : Stmt := zcb (top 53) 10
noncomputable def g_Book_due_of : Ev -> M Fl :=
  (zct (sExp (eMth [(8, f_Book_check_pot)] 2 "check_pot" (zar 0) (zah (zar 1) zai)))
  (zcs (eMth [(5, f_Held_comes), (6, f_Laid_comes), (7, f_Taken_comes)] 3 "comes" (zap oIx (eUn (oFld [8] "claims") (zar 0)) (zar 1)) (zah (eUn (oFld [6, 8] "day") (zar 0)) (zah (zap oIx (eUn (oFld [8] "shown") (zar 0)) (zar 1)) zai)))))
noncomputable def f_Book_due_of : List D -> M D := hide fun ds => frz (run 2 g_Book_due_of ds)
theorem sc_Book_due_of : FnScope ["self", "pot"] ["self", "pot"] (zao s_Book_due_of) := ⟨rfl, rfl, rfl, by decide +kernel, rfl, by decide +kernel, by decide +kernel⟩
theorem bd_Book_due_of : ∀ (kV doc pm : Value) (an : Option Addr) (cdv ct : Value) (us : List Value), us.length = (["self", "pot"] : List Str).length -> bindArgs (PySem.W.fnOf "due_of" "Book.due_of" (zam s_Book_due_of) (zan s_Book_due_of) (zao s_Book_due_of) .none kV doc pm an cdv ct) ⟨us, []⟩ = pure ((["self", "pot"] : List Str).zip us) :=
  fun _ _ _ _ _ _ us hl => match us, hl with | [_, _], _ => rfl
theorem ok_Book_due_of (Xt : Txt K mg ca) : OkA ⟨K, ca⟩ P w mg base 4 (ca 32) ["self", "pot"] f_Book_due_of :=
  OkA.hide (OkA.frz (zcg Xt.f_Book_due_of sc_Book_due_of fun _ _ _ _ _ _ hr =>
    (zbo (zbk (zbb (k := 3) (ps := ["self", "pot"]) rfl (zbf 0) (zbz (T := ⟨K, ca⟩) (c := 8) Xt.cl_Book Xt.me_Book_check_pot (zch Xt) (by decide) zca) (hr.mono (by decide)) (zas (zbf 1) zat)))
    (zbq (zbm (zbb (k := 3) (ps := ["self", "day", "shown"]) rfl (zba zbw (zdj rfl) (zax rfl (zbi (T := ⟨K, ca⟩) (c := 8) Xt.cl_Book Xt.na_Book_claims zbj) (zbf 0)) (zbf 1) (fun _ _ => rfl)) (zbz (T := ⟨K, ca⟩) (c := 5) Xt.cl_Held Xt.me_Held_comes (ok_Held_comes Xt) (by decide) (zbz (T := ⟨K, ca⟩) (c := 6) Xt.cl_Laid Xt.me_Laid_comes (ok_Laid_comes Xt) (by decide) (zbz (T := ⟨K, ca⟩) (c := 7) Xt.cl_Taken Xt.me_Taken_comes (ok_Taken_comes Xt) (by decide) zca))) (hr.mono (by decide)) (zas (zax rfl (zbi (T := ⟨K, ca⟩) (c := 6) Xt.cl_Laid Xt.na_Laid_day (zbi (T := ⟨K, ca⟩) (c := 8) Xt.cl_Book Xt.na_Book_day zbj)) (zbf 0)) (zas (zba zbw (zdj rfl) (zax rfl (zbi (T := ⟨K, ca⟩) (c := 8) Xt.cl_Book Xt.na_Book_shown zbj) (zbf 0)) (zbf 1) (fun _ _ => rfl)) zat))))))))
abbrev s_Book_coin_of : Stmt := zcb (top 53) 11
noncomputable def g_Book_coin_of : Ev -> M Fl :=
  (zct (sIf (bNot (eT (eFn 1 f_is_hand [] (zah (zar 1) zai)))) (sRaise 2 (zah (eC (.str "there is no such hand")) zai)) sNil)
  (zct (sSet 2 (eC (.int 0)))
  (zct (sForN (srcE (eUn (oFld [8] "pots") (zar 0))) (tgT 2 (tgCons (tgN 3) (tgCons (tgN 4) tgNil))) (sFor (srcS (eTup (zah (eC (.int 0)) (zah (eC (.int 1)) zai)))) (tgN 5) (sIf (eT (zap oEq (zap oIx (zar 4) (zar 5)) (zar 1))) (sAug (fun a b => a + b) 2 (zap oIx (eMth [(8, f_Book_due_of)] 2 "due_of" (zar 0) (zah (zar 3) zai)) (zar 5))) sNil)))
  (zcs (zar 2)))))
noncomputable def f_Book_coin_of : List D -> M D := hide fun ds => frz (run 6 g_Book_coin_of ds)
theorem zdf : FnScope ["self", "hand", "coin", "pot", "made", "side"] ["self", "hand"] (zao s_Book_coin_of) := ⟨rfl, rfl, rfl, by decide +kernel, rfl, by decide +kernel, by decide +kernel⟩
theorem bd_Book_coin_of : ∀ (kV doc pm : Value) (an : Option Addr) (cdv ct : Value) (us : List Value), us.length = (["self", "hand"] : List Str).length -> bindArgs (PySem.W.fnOf "coin_of" "Book.coin_of" (zam s_Book_coin_of) (zan s_Book_coin_of) (zao s_Book_coin_of) .none kV doc pm an cdv ct) ⟨us, []⟩ = pure ((["self", "hand"] : List Str).zip us) :=
  fun _ _ _ _ _ _ us hl => match us, hl with | [_, _], _ => rfl
theorem ok_Book_coin_of (Xt : Txt K mg ca) : OkA ⟨K, ca⟩ P w mg base 5 (ca 33) ["self", "hand"] f_Book_coin_of :=
  OkA.hide (OkA.frz (zcg Xt.f_Book_coin_of zdf fun _ _ _ _ _ _ hr =>
    (zbo (zbl (ft_not (zbs (zaw (ok_is_hand Xt) rfl (hr.mono (by decide)) rfl (zas (zbf 1) zat)))) (zbq (fs_raise 2 PySem.F.excBase_ValueError rfl Xt.x_NoDeed Xt.m_NoDeed rfl rfl (zas zbd zat))) zbp)
    (zbo (zbn (i := 2) zdf.nd rfl (Or.inl rfl) zaz)
    (zbo (fs_forN zcp rfl (fi_enum rfl Xt.n_enumerate (zax rfl (zbi (T := ⟨K, ca⟩) (c := 8) Xt.cl_Book Xt.na_Book_pots zbj) (zbf 0))) (fg_tup rfl (fgs_cons (zbg (i := 3) zdf.nd rfl (Or.inl rfl)) (fgs_cons (zbg (i := 4) zdf.nd rfl (Or.inl rfl)) fgs_nil))) (zbq (fs_for zcp rfl (fi_seq rfl (zbe (zas zaz (zas zaz zat)))) (zbg (i := 5) zdf.nd rfl (Or.inl rfl)) (zbq (zbl (zbr (zcm (hu9 hr)) sndD (zba zbw (zdj rfl) (zbf 4) (zbf 5) (fun _ _ => rfl)) (zbf 1) (zcd _)) (zbq (fs_aug (i := 2) ip_add zdf.nd rfl (Or.inl rfl) (zba zbw (zdj rfl) (zbb (k := 4) (ps := ["self", "pot"]) rfl (zbf 0) (zbz (T := ⟨K, ca⟩) (c := 8) Xt.cl_Book Xt.me_Book_due_of (ok_Book_due_of Xt) (by decide) zca) (hr.mono (by decide)) (zas (zbf 3) zat)) (zbf 5) (fun _ _ => rfl)))) zbp)))))
    (zbq (zbm (zbf 2))))))))
abbrev s__law_kept : Stmt := top 60
noncomputable def g__law_kept : Ev -> M Fl :=
  (zct (sSet 3 (eC (.int 0)))
  (zct (sFor (srcR (zaq oLen (zah (zar 1) zai))) (tgN 4) (zct (sSet 5 (eMth [(8, f_Book_due_of)] 2 "due_of" (zar 0) (zah (zar 4) zai)))
  (zct (sIf (bOr (eT (zap oNe (zaq oLen (zah (zar 5) zai)) (eC (.int 3)))) (bOr (eT (zap oLt (zaq (oMnI mnL) (zah (zar 5) zai)) (eC (.int 0)))) (eT (zap oNe (zaq oSum (zah (zar 5) zai)) (zap oAdd (zap oIx (zap oIx (zar 1) (zar 4)) (eC (.int 2))) (zap oIx (zap oIx (zar 1) (zar 4)) (eC (.int 3)))))))) (zcs (eC (.bl false))) sNil)
  (zct (sIf (bNot (eT (zaq oAll (zah (eFrz (eLC (srcS (zar 5)) [] (tgN 0) bTrue (eAnd (eUn (oIsB .int) (zar 0)) (eNot (eUn (oIsB .bool) (zar 0)))))) zai)))) (zcs (eC (.bl false))) sNil)
  (zct (sIf (bOr (eT (zap oLt (zap oIx (zar 5) (eC (.int 0))) (zap oIx (zap oIx (zar 2) (zar 4)) (eC (.int 0))))) (eT (zap oLt (zap oIx (zar 5) (eC (.int 1))) (zap oIx (zap oIx (zar 2) (zar 4)) (eC (.int 1)))))) (zcs (eC (.bl false))) sNil)
  (zct (sIf (bAnd (eT (zap oEq (zap oIx (eMth [(8, f_Book_told)] 2 "told" (zar 0) (zah (zar 4) zai)) (eC (.int 0))) (eC (.str "taken")))) (eT (zap oNe (zap oIx (zar 5) (zap oIx (eMth [(8, f_Book_told)] 2 "told" (zar 0) (zah (zar 4) zai)) (eC (.int 1)))) (zaq oSum (zah (zar 5) zai))))) (zcs (eC (.bl false))) sNil)
  (sSet 3 (zap oAdd (zap oAdd (zar 3) (zap oIx (zar 5) (eC (.int 0)))) (zap oIx (zar 5) (eC (.int 1)))))))))))
  (zcs (zap oEq (zaq oSum (zah (eFrz (eLC (srcR (eC (.int 4))) [0] (tgN 0) bTrue (eMth [(8, f_Book_coin_of)] 2 "coin_of" (zar 1) (zah (zar 0) zai)))) zai)) (zar 3)))))
noncomputable def f__law_kept : List D -> M D := hide fun ds => frz (run 6 g__law_kept ds)
theorem sc__law_kept : FnScope ["_law_book", "_law_pots_here", "_law_ahead", "_law_whole", "_law_k", "_law_found"] ["_law_book", "_law_pots_here", "_law_ahead"] (zao s__law_kept) := ⟨rfl, rfl, rfl, by decide +kernel, rfl, by decide +kernel, by decide +kernel⟩
theorem bd__law_kept : ∀ (kV doc pm : Value) (an : Option Addr) (cdv ct : Value) (us : List Value), us.length = (["_law_book", "_law_pots_here", "_law_ahead"] : List Str).length -> bindArgs (PySem.W.fnOf "_law_kept" "_law_kept" (zam s__law_kept) (zan s__law_kept) (zao s__law_kept) .none kV doc pm an cdv ct) ⟨us, []⟩ = pure ((["_law_book", "_law_pots_here", "_law_ahead"] : List Str).zip us) :=
  fun _ _ _ _ _ _ us hl => match us, hl with | [_, _, _], _ => rfl
theorem ok__law_kept (Xt : Txt K mg ca) : OkF ⟨K, ca⟩ P w mg base 6 "_law_kept" ["_law_book", "_law_pots_here", "_law_ahead"] f__law_kept :=
  OkF.hide (OkF.frz (zck Xt.f__law_kept sc__law_kept fun _ _ _ _ _ _ _ hr =>
    (zbo (zbn (i := 3) sc__law_kept.nd rfl (Or.inl rfl) zaz)
    (zbo (fs_for zcp rfl (fi_range rfl Xt.n_range (zav zal (zdk rfl) rfl Xt.n_len PySem.boot_len (zas (zbf 1) zat))) (zbg (i := 4) sc__law_kept.nd rfl (Or.inl rfl)) (zbo (zbn (i := 5) sc__law_kept.nd rfl (Or.inl rfl) (zbb (k := 4) (ps := ["self", "pot"]) rfl (zbf 0) (zbz (T := ⟨K, ca⟩) (c := 8) Xt.cl_Book Xt.me_Book_due_of (ok_Book_due_of Xt) (by decide) zca) (hr.mono (by decide)) (zas (zbf 4) zat)))
    (zbo (zbl (L2.PW.pt (fw_or (zbr (op_neD (hu9 hr)) sndD (zav zal (zdk rfl) rfl Xt.n_len PySem.boot_len (zas (zbf 5) zat)) zaz (zcd _)) (fw_or (zbr op_lt snd_lt (zav (call_minI rfl) (snd_mnI rfl) rfl Xt.n_min boot_min (zas (zbf 5) zat)) zaz (zcd _)) (fw_or1 (zbr (op_neD (hu9 hr)) sndD (zav (call_sumI rfl) (snd_sum rfl) rfl Xt.n_sum boot_sum (zas (zbf 5) zat)) (zbc (zcl rfl) sndD (zba zbw (zdj rfl) (zba zbw (zdj rfl) (zbf 1) (zbf 4) (fun _ _ => rfl)) zaz (fun _ _ => rfl)) (zba zbw (zdj rfl) (zba zbw (zdj rfl) (zbf 1) (zbf 4) (fun _ _ => rfl)) zaz (fun _ _ => rfl))) (zcd _)))))) (zbq (zbm fe_bl)) zbp)
    (zbo (zbl (ft_not (zbs (zav (call_all rfl) (snd_all rfl) rfl Xt.n_all boot_all (zas (fe_frz (fe_lc (x := "_law_part") (M' := []) (ix := []) rfl ⟨rfl, rfl, rfl, rfl, rfl, rfl⟩ (fi_seq rfl (zbf 5)) (fun _ _ _ _ _ => zbg (i := 0) (by show List.Nodup (("_law_part" :: []) : List Str); decide +kernel) rfl (Or.inl rfl)) (fun _ _ _ _ _ => fif_nil) (fun _ _ _ _ _ => (zau (fe_isB .int (zbf 0) rfl Xt.n_isinstance rfl Xt.n_int boot_int) (fe_one (fe_not (fe_isB .bool (zbf 0) rfl Xt.n_isinstance rfl Xt.n_bool boot_bool))))))) zat)))) (zbq (zbm fe_bl)) zbp)
    (zbo (zbl (L2.PW.pt (fw_or (zbr op_lt snd_lt (zba zbw (zdj rfl) (zbf 5) zaz (fun _ _ => rfl)) (zba zbw (zdj rfl) (zba zbw (zdj rfl) (zbf 2) (zbf 4) (fun _ _ => rfl)) zaz (fun _ _ => rfl)) (zcd _)) (fw_or1 (zbr op_lt snd_lt (zba zbw (zdj rfl) (zbf 5) zaz (fun _ _ => rfl)) (zba zbw (zdj rfl) (zba zbw (zdj rfl) (zbf 2) (zbf 4) (fun _ _ => rfl)) zaz (fun _ _ => rfl)) (zcd _))))) (zbq (zbm fe_bl)) zbp)
    (zbo (zbl (L2.PW.pt (fw_and (zbr (zcm (hu9 hr)) sndD (zba zbw (zdj rfl) (zbb (k := 4) (ps := ["self", "pot"]) rfl (zbf 0) (zbz (T := ⟨K, ca⟩) (c := 8) Xt.cl_Book Xt.me_Book_told (zci Xt) (by decide) zca) (hr.mono (by decide)) (zas (zbf 4) zat)) zaz (fun _ _ => rfl)) zbd (zcd _)) (fw_and1 (zbr (op_neD (hu9 hr)) sndD (zba zbw (zdj rfl) (zbf 5) (zba zbw (zdj rfl) (zbb (k := 4) (ps := ["self", "pot"]) rfl (zbf 0) (zbz (T := ⟨K, ca⟩) (c := 8) Xt.cl_Book Xt.me_Book_told (zci Xt) (by decide) zca) (hr.mono (by decide)) (zas (zbf 4) zat)) zaz (fun _ _ => rfl)) (fun _ _ => rfl)) (zav (call_sumI rfl) (snd_sum rfl) rfl Xt.n_sum boot_sum (zas (zbf 5) zat)) (zcd _))))) (zbq (zbm fe_bl)) zbp)
    (zbq (zbn (i := 3) sc__law_kept.nd rfl (Or.inl rfl) (zbc (zcl rfl) sndD (zbc (zcl rfl) sndD (zbf 3) (zba zbw (zdj rfl) (zbf 5) zaz (fun _ _ => rfl))) (zba zbw (zdj rfl) (zbf 5) zaz (fun _ _ => rfl)))))))))))
    (zbq (zbm (fe_cmp (zcm (hu9 hr)) sndD (zav (call_sumI rfl) (snd_sum rfl) rfl Xt.n_sum boot_sum (zas (fe_frz (fe_lc (x := "_law_hand") (M' := ["_law_book"]) (ix := [0]) rfl ⟨rfl, rfl, rfl, rfl, rfl, rfl⟩ (fi_range rfl Xt.n_range zaz) (fun _ _ _ _ _ => zbg (i := 0) (by show List.Nodup (("_law_hand" :: ["_law_book"]) : List Str); decide +kernel) rfl (Or.inl rfl)) (fun _ _ _ _ _ => fif_nil) (fun _ _ _ _ _ => (zbb (k := 5) (ps := ["self", "hand"]) rfl (zbf 1) (zbz (T := ⟨K, ca⟩) (c := 8) Xt.cl_Book Xt.me_Book_coin_of (ok_Book_coin_of Xt) (by decide) zca) (hr.mono (by decide)) (zas (zbf 0) zat))))) zat)) (zbf 3) (zcd _))))))))
abbrev s_law : Stmt := top 61
noncomputable def g_law : Ev -> M Fl :=
  (zct (sSet 1 (eFn 1 f__law_pots [] (zah (zar 0) zai)))
  (zct (sSet 2 (eMake 8 2 f_Book___init__ (zah (zar 1) zai)))
  (zct (sSet 3 (eFrz (eLC (srcS (zar 1)) [] (tgN 0) bTrue (eTup (zah (eC (.int 0)) (zah (eC (.int 0)) (zah (eC (.int 0)) zai)))))))
  (zct (sFor (srcS (zap oAdd (eSl (zar 0) (some (eC (.int 4))) (some (eC (.int 44)))) (zap oRep (eLv (zah (eC (.int 0)) zai)) (eC (.int 40))))) (tgN 4) (zct (sExp (eFn 3 f__law_try [] (zah (zar 2) (zah (zar 1) (zah (zar 4) zai)))))
  (zct (sIf (bNot (eT (eFn 3 f__law_kept [] (zah (zar 2) (zah (zar 1) (zah (zar 3) zai)))))) (zcs (eC (.bl false))) sNil)
  (sSet 3 (eFrz (eLC (srcR (zaq oLen (zah (zar 1) zai))) [2] (tgN 0) bTrue (eMth [(8, f_Book_due_of)] 2 "due_of" (zar 1) (zah (zar 0) zai))))))))
  (zct (sFor (srcR (zaq oLen (zah (zar 1) zai))) (tgN 5) (sIf (bAnd (eT (zap oNe (zap oIx (eMth [(8, f_Book_told)] 2 "told" (zar 2) (zah (zar 5) zai)) (eC (.int 0))) (eC (.str "held")))) (eT (zap oNe (zap oIx (eMth [(8, f_Book_due_of)] 2 "due_of" (zar 2) (zah (zar 5) zai)) (eC (.int 2))) (eC (.int 0))))) (zcs (eC (.bl false))) sNil))
  (zcs (eC (.bl true))))))))
noncomputable def f_law : List D -> M D := run 6 g_law
theorem sc_law : FnScope ["_law_script", "_law_pots_here", "_law_book", "_law_ahead", "_law_cell", "_law_k"] ["_law_script"] (zao s_law) := ⟨rfl, rfl, rfl, by decide +kernel, rfl, by decide +kernel, by decide +kernel⟩
theorem bd_law : ∀ (kV doc pm : Value) (an : Option Addr) (cdv ct : Value) (us : List Value), us.length = (["_law_script"] : List Str).length -> bindArgs (PySem.W.fnOf "law" "law" (zam s_law) (zan s_law) (zao s_law) .none kV doc pm an cdv ct) ⟨us, []⟩ = pure ((["_law_script"] : List Str).zip us) :=
  fun _ _ _ _ _ _ us hl => match us, hl with | [_], _ => rfl
theorem ok_law (Xt : Txt K mg ca) : OkL ⟨K, ca⟩ P w mg 12 "law" ["_law_script"] f_law :=
  ok_ofL Xt.f_law sc_law fun _ _ _ _ _ _ _ _ hr =>
    (zbo (zbn (i := 1) sc_law.nd rfl (Or.inl rfl) (zaw (ok__law_pots Xt) rfl (hr.mono (by decide)) rfl (zas (zbf 0) zat)))
    (zbo (zbn (i := 2) sc_law.nd rfl (Or.inr rfl) (fe_make (c := 8) (ps := ["self", "pots"]) ⟨_, Xt.m_Book, Xt.mk_Book, ok_Book___init__ Xt⟩ rfl (hr.mono (by decide)) rfl (zas (zbf 1) zat)))
    (zbo (fs_setF (fs_setLC (i := 3) sc_law.nd rfl (Or.inl rfl) (x := "_law_pot") (M' := []) (ix := []) rfl ⟨rfl, rfl, rfl, rfl, rfl, rfl⟩ (fi_seq rfl (zbf 1)) (fun _ _ _ _ _ => zbg (i := 0) (by show List.Nodup (("_law_pot" :: []) : List Str); decide +kernel) rfl (Or.inl rfl)) (fun _ _ _ _ _ => fif_nil) (fun _ _ _ _ _ => (zbe (zas zaz (zas zaz (zas zaz zat)))))))
    (zbo (fs_for zcp rfl (fi_seq rfl (zbc (zcl rfl) sndD (fe_slice rfl (zbf 0) (fo_some zaz) (fo_some zaz)) (zbc op_repD sndD (fe_lv (zas zaz zat)) zaz))) (zbg (i := 4) sc_law.nd rfl (Or.inl rfl)) (zbo (zbk (zaw (ok__law_try Xt) rfl (hr.mono (by decide)) rfl (zas (zbf 2) (zas (zbf 1) (zas (zbf 4) zat)))))
    (zbo (zbl (ft_not (zbs (zaw (ok__law_kept Xt) rfl (hr.mono (by decide)) rfl (zas (zbf 2) (zas (zbf 1) (zas (zbf 3) zat)))))) (zbq (zbm fe_bl)) zbp)
    (zbq (fs_setF (fs_setLC (i := 3) sc_law.nd rfl (Or.inl rfl) (x := "_law_k") (M' := ["_law_book"]) (ix := [2]) rfl ⟨rfl, rfl, rfl, rfl, rfl, rfl⟩ (fi_range rfl Xt.n_range (zav zal (zdk rfl) rfl Xt.n_len PySem.boot_len (zas (zbf 1) zat))) (fun _ _ _ _ _ => zbg (i := 0) (by show List.Nodup (("_law_k" :: ["_law_book"]) : List Str); decide +kernel) rfl (Or.inl rfl)) (fun _ _ _ _ _ => fif_nil) (fun _ _ _ _ _ => (zbb (k := 4) (ps := ["self", "pot"]) rfl (zbf 1) (zbz (T := ⟨K, ca⟩) (c := 8) Xt.cl_Book Xt.me_Book_due_of (ok_Book_due_of Xt) (by decide) zca) (hr.mono (by decide)) (zas (zbf 0) zat)))))))))
    (zbo (fs_for zcp rfl (fi_range rfl Xt.n_range (zav zal (zdk rfl) rfl Xt.n_len PySem.boot_len (zas (zbf 1) zat))) (zbg (i := 5) sc_law.nd rfl (Or.inl rfl)) (zbq (zbl (L2.PW.pt (fw_and (zbr (op_neD (hu9 hr)) sndD (zba zbw (zdj rfl) (zbb (k := 4) (ps := ["self", "pot"]) rfl (zbf 2) (zbz (T := ⟨K, ca⟩) (c := 8) Xt.cl_Book Xt.me_Book_told (zci Xt) (by decide) zca) (hr.mono (by decide)) (zas (zbf 5) zat)) zaz (fun _ _ => rfl)) zbd (zcd _)) (fw_and1 (zbr (op_neD (hu9 hr)) sndD (zba zbw (zdj rfl) (zbb (k := 4) (ps := ["self", "pot"]) rfl (zbf 2) (zbz (T := ⟨K, ca⟩) (c := 8) Xt.cl_Book Xt.me_Book_due_of (ok_Book_due_of Xt) (by decide) zca) (hr.mono (by decide)) (zas (zbf 5) zat)) zaz (fun _ _ => rfl)) zaz (zcd _))))) (zbq (zbm fe_bl)) zbp)))
    (zbq (zbm fe_bl)))))))
end
end K16
namespace K16
open PySem L2 L4
set_option maxHeartbeats 4000000
def cellV (ns : List Int) (k : Nat) : Int := ns.getD k 0
theorem cell_ap (ns : List Int) (k : Int) (hk : 0 <= k) (σ : Sto) : f__law_cell_at [.scr ns, .int k] σ = .ok (.int (cellV ns k.toNat)) σ := by
  unfold f__law_cell_at g__law_cell_at cellV
  by_cases h : k < ns.length
  · simp [h, oIx_scr hk h]
  · have e : ns.length <= k.toNat := by omega
    simp [h, List.getElem?_eq_none e]
def mixW (c k : Int) : Int :=
  if c % 2 = 0 then Builtin.bitAnd (c / 2 / 2 ^ (41 * k).toNat) 2199023255551
  else ((c % 2147483647 + 7919 * k + 1) * 48271 % 2147483647 * ((c % 2147483647 + 7919 * k + 1) * 48271 % 2147483647 / 1009 + 69621) % 2147483647) *
    ((c % 2147483647 + 7919 * k + 1) * 48271 % 2147483647 * ((c % 2147483647 + 7919 * k + 1) * 48271 % 2147483647 / 1009 + 69621) % 2147483647 / 4099 + 16807 + k) % 2147483629
theorem mixW_ap (c k : Int) (hk : 0 <= k) (σ : Sto) : f__law_mixed [.int c, .int k] σ = .ok (.int (mixW c k)) σ := by
  unfold f__law_mixed g__law_mixed mixW
  by_cases h : c % 2 = 0
  · rw [if_pos h]
    simp [h, oMul_ap (cMul_L (i := 41) (j := k) (by decide) (by decide)), show 0 <= 41 * k by omega]
  · rw [if_neg h]
    have b1 : ∀ z y : Int, cMul (z % 2147483647) y = true := fun z y => cMul_L (by omega) (by omega)
    have b2 : ∀ z : Int, cMul z 48271 = true := fun z => cMul_R (by decide) (by decide)
    have b3 : cMul 7919 k = true := cMul_L (by decide) (by decide)
    have hb : (c % 2 == 0) = false := by simpa using h
    simp [hb, oMul_ap, b1, b2, b3]
theorem mix_ex : ∃ f : Int -> Int -> Int, ∀ c k : Int, 0 <= k -> ∀ σ, f__law_mixed [.int c, .int k] σ = .ok (.int (f c k)) σ := ⟨mixW, mixW_ap⟩
noncomputable def mixV : Int -> Int -> Int := mix_ex.choose
theorem mix_ap (c k : Int) (hk : 0 <= k) (σ : Sto) : f__law_mixed [.int c, .int k] σ = .ok (.int (mixV c k)) σ := mix_ex.choose_spec c k hk σ
structure Ti where
  p : Int
  a : Int
  w : Int
  d : Int
def Ti.D (t : Ti) : L4.D := .tup [.int t.p, .int t.a, .int t.w, .int t.d]
structure Ti.Ok (t : Ti) : Prop where
  p1 : 0 <= t.p
  p2 : t.p <= 1
  a1 : 1 <= t.a
  a2 : t.a <= 1000000000000
  w1 : 0 <= t.w
  w2 : t.w <= 59
  d1 : 0 <= t.d
  d2 : t.d <= 1000000
@[simp] theorem Ti.cl (t : Ti) : L4.cl t.D = true := by simp [Ti.D]
@[simp] theorem Ti.clL (ts : List Ti) : L4.clL (ts.map Ti.D) = true := clL_map Ti.cl
structure TsOk (ts : List Ti) : Prop where
  ok : ∀ t ∈ ts, t.Ok
  nd : (ts.map (·.w)).Nodup
  len : ts.length <= 6
theorem whole_int (i : Int) (σ : Sto) : f_is_whole [.int i] σ = .ok (.bl true) σ := by unfold f_is_whole g_is_whole; simp
theorem btw_int (i a b : Int) (σ : Sto) : f_is_between [.int i, .int a, .int b] σ = .ok (.bl (decide (a <= i) && decide (i <= b))) σ := by
  unfold f_is_between g_is_between
  cases h : decide (a <= i) <;> simp [whole_int, h]
theorem side_int (i : Int) (σ : Sto) : f_is_side [.int i] σ = .ok (.bl (decide (0 <= i) && decide (i <= 1))) σ := by unfold f_is_side g_is_side; simp [btw_int]
theorem amount_int (i : Int) (σ : Sto) : f_is_amount [.int i] σ = .ok (.bl (decide (1 <= i) && decide (i <= 1000000000000))) σ := by unfold f_is_amount g_is_amount; simp [btw_int]
theorem day_int (i : Int) (σ : Sto) : f_is_day [.int i] σ = .ok (.bl (decide (0 <= i) && decide (i <= 1000000))) σ := by unfold f_is_day g_is_day; simp [btw_int]
theorem word_int (i : Int) (σ : Sto) : f_is_word [.int i] σ = .ok (.bl (decide (0 <= i) && decide (i <= 59))) σ := by unfold f_is_word g_is_word; simp [btw_int]
theorem number_int (i : Int) (σ : Sto) : f_is_number [.int i] σ = .ok (.bl (decide (0 <= i) && decide (i <= 1000000))) σ := by unfold f_is_number g_is_number; simp [btw_int]
def tieB (t : Ti) : Bool := (decide (0 <= t.p) && decide (t.p <= 1)) && ((decide (1 <= t.a) && decide (t.a <= 1000000000000)) && ((decide (0 <= t.w) && decide (t.w <= 59)) && (decide (0 <= t.d) && decide (t.d <= 1000000))))
theorem tieB_iff (t : Ti) : tieB t = true ↔ t.Ok := by
  simp only [tieB, Bool.and_eq_true, decide_eq_true_eq]
  exact ⟨fun h => ⟨h.1.1, h.1.2, h.2.1.1, h.2.1.2, h.2.2.1.1, h.2.2.1.2, h.2.2.2.1, h.2.2.2.2⟩, fun h => ⟨⟨h.p1, h.p2⟩, ⟨h.a1, h.a2⟩, ⟨h.w1, h.w2⟩, h.d1, h.d2⟩⟩
theorem tie_is (t : Ti) (σ : Sto) : f_is_tie [t.D] σ = .ok (.bl (tieB t)) σ := by
  unfold f_is_tie g_is_tie Ti.D tieB
  simp [side_int, amount_int, word_int, day_int]
  cases h1 : (decide (0 <= t.p) && decide (t.p <= 1)) <;> simp [amount_int, h1]
  cases h2 : (decide (1 <= t.a) && decide (t.a <= 1000000000000)) <;> simp [word_int, h2]
  cases h3 : (decide (0 <= t.w) && decide (t.w <= 59)) <;> simp [day_int, h3]
def tiesB (ts : List Ti) : Bool := decide (ts.length <= 6) && (ts.all tieB && decide (ts.map (·.w)).Nodup)
theorem tiesB_iff (ts : List Ti) : tiesB ts = true ↔ TsOk ts := by
  simp only [tiesB, Bool.and_eq_true, decide_eq_true_eq, List.all_eq_true]
  exact ⟨fun h => ⟨fun t ht => (tieB_iff t).mp (h.2.1 t ht), h.2.2, h.1⟩, fun h => ⟨h.len, fun t ht => (tieB_iff t).mpr (h.ok t ht), h.nd⟩⟩
theorem lc_ties {ρ : Ev} {σ : Sto} {i : Nat} {ix : List Nat} {ts : List Ti} (hl : ts.length <= 1000) (h : zar i ρ σ = .ok (.tup (ts.map Ti.D)) σ) :
    eFrz (eLC (srcS (zar i)) [] (tgN 0) bTrue (zap oIx (zar 0) (eC (.int 2)))) ρ σ = .ok (.lst ((ts.map (·.w)).map D.int)) σ := by
  have := lc_map (ix := []) (fe := zap oIx (zar 0) (eC (.int 2))) (ds := ts.map Ti.D) (ρ := ρ) (σ := σ) (src := srcS (zar i)) (fun d => match d with | .tup [_, _, w, _] => w | _ => .non) (by simp [h]) (by simpa using hl) (fun d hd j => by obtain ⟨t, _, rfl⟩ := List.mem_map.mp hd; simp [Ti.D]) (fun d hd => by obtain ⟨t, _, rfl⟩ := List.mem_map.mp hd; simp [Ti.D])
  rw [this, List.map_map, List.map_map]; rfl
theorem ties_are (ts : List Ti) (σ : Sto) : f_are_ties [.tup (ts.map Ti.D)] σ = .ok (.bl (tiesB ts)) σ := by
  unfold f_are_ties g_are_ties tiesB
  by_cases hl : ts.length <= 6
  · have l1 : eFrz (eLC (srcS (zar 0)) [] (tgN 0) bTrue (eFn 1 f_is_tie [] (zah (zar 0) zai))) [some (.tup (ts.map Ti.D))] σ = .ok (.lst (ts.map fun t => D.bl (tieB t))) σ := by
      have := lc_map (ix := []) (fe := eFn 1 f_is_tie [] (zah (zar 0) zai)) (ds := ts.map Ti.D) (ρ := [some (.tup (ts.map Ti.D))]) (σ := σ) (src := srcS (zar 0)) (fun d => match d with | .tup [.int p, .int a, .int w, .int d] => .bl (tieB ⟨p, a, w, d⟩) | _ => .non) (by simp) (by simp; omega) (fun d hd j => by obtain ⟨t, _, rfl⟩ := List.mem_map.mp hd; simp [tie_is]; rfl) (fun d hd => by obtain ⟨t, _, rfl⟩ := List.mem_map.mp hd; simp [Ti.D])
      rw [this, List.map_map]; rfl
    have l2 := lc_ties (ρ := [some (.tup (ts.map Ti.D))]) (σ := σ) (i := 0) (ix := []) (ts := ts) (by omega) (by simp)
    have hb : (decide ((ts.length : Int) > 6)) = false := by simp; omega
    have l3 := oLenSet_ints (σ := σ) (l := ts.map (·.w)) (by simp; omega)
    have l4 : ((ddp (ts.map (·.w))).length : Int) = (ts.length : Int) ↔ (ts.map (·.w)).Nodup := by
      have := ddp_len (ts.map (·.w)); rwa [List.length_map] at this
    have l5 : (((ddp (ts.map (·.w))).length : Int) == (ts.length : Int)) = decide (ts.map (·.w)).Nodup := by
      rw [Bool.eq_iff_iff]; simpa using l4
    have ha := oAll_map (σ := σ) (f := tieB) (l := ts)
    simp only [zbt, frz_ap, run_ap, sSeq_ap, sIf_ap, bOr_ap, bNot_ap, eT_ap, eUn_ap, eCall_ap, List.map_cons, List.map_nil, List.length_cons, List.length_nil, List.cons_append, List.nil_append, List.replicate, Nat.reduceAdd, Nat.reduceSub, eVar_0, zak, oIsB_tup, tst_ap, notK_ap, Bool.not_true, ifK_f, eBin_ap, aCons_ap, aNil_ap, aConsK_ap, consK_ap, oLen_tup, binK_ap, eC_ap, oB_ap, List.length_map, hb, xsO_ok, sNil_ap, seqK_nx, l1, ha]
    cases h2 : ts.all tieB with
    | false => simp
    | true => simp [l2, l3, l5, hl, -List.map_map, -eFrz_ap]
  · have hb : (decide ((ts.length : Int) > 6)) = true := by simp; omega
    have hb' : decide (ts.length <= 6) = false := by simpa using hl
    have hb2 : decide ((6 : Int) < (ts.length : Int)) = true := by simp; omega
    simp [hb', hb2]
def stB (n a b : Int) (ts : List Ti) : Bool := (decide (0 <= n) && decide (n <= 1000000)) && (((decide (0 <= a) && decide (a <= 2000000000000)) && (decide (0 <= b) && decide (b <= 2000000000000))) && tiesB ts)
def stD (n a b : Int) (ts : List Ti) : D := .tup [.int n, .tup [.int a, .int b], .tup (ts.map Ti.D)]
@[simp] theorem stD_cl (n a b : Int) (ts : List Ti) : cl (stD n a b ts) = true := by simp [stD]
theorem shares_are (a b : Int) (σ : Sto) : f_are_shares [.tup [.int a, .int b]] σ = .ok (.bl ((decide (0 <= a) && decide (a <= 2000000000000)) && (decide (0 <= b) && decide (b <= 2000000000000)))) σ := by
  unfold f_are_shares g_are_shares
  simp [btw_int]
  cases h1 : (decide (0 <= a) && decide (a <= 2000000000000)) <;> simp [btw_int, h1]
theorem stand_is (n a b : Int) (ts : List Ti) (σ : Sto) : f_is_stand [stD n a b ts] σ = .ok (.bl (stB n a b ts)) σ := by
  unfold f_is_stand g_is_stand stD stB
  simp [number_int]
  cases h1 : (decide (0 <= n) && decide (n <= 1000000)) <;> simp [shares_are]
  cases h2 : ((decide (0 <= a) && decide (a <= 2000000000000)) && (decide (0 <= b) && decide (b <= 2000000000000))) <;> simp [ties_are]
theorem other_ap (i : Int) (σ : Sto) : f_other_side [.int i] σ = .ok (.int (1 - i)) σ := by unfold f_other_side g_other_side; simp
noncomputable abbrev smallB : Ev -> M Fl := (zct (sSet 6 (eFn 2 f__law_mixed [] (zah (zap oDiv (zar 0) (eC (.int 7))) (zah (zar 5) zai))))
  (zct (sSet 7 (zaq oMin2 (zah (zar 2) (zah (zap oAdd (eC (.int 1)) (zap oMod (zap oDiv (zar 6) (eC (.int 7))) (zap oIx (eLv (zah (eC (.int 9)) (zah (zap oAdd (eC (.int 1)) (zar 1)) zai))) (zap oDiv (zap oMod (zar 6) (eC (.int 7))) (eC (.int 6)))))) zai))))
  (zct (sSet 8 (zap oMod (zap oDiv (zar 6) (eC (.int 70))) (eC (.int 12))))
  (sIf (bAnd (eT (zap oGt (zar 7) (eC (.int 0)))) (eT (zap (oIn true) (zar 8) (zar 4)))) (zct (sExp (eMeth oAppend (zar 4) (zah (zar 8) zai)))
  (zct (sSet 2 (zap oSub (zar 2) (zar 7)))
  (sSet 3 (zap oAdd (zar 3) (eTup (zah (eTup (zah (zap oMod (zap oDiv (zar 6) (eC (.int 840))) (eC (.int 2))) (zah (zar 7) (zah (zar 8) (zah (zap oMod (zap oDiv (zar 6) (eC (.int 1680))) (eC (.int 30))) zai))))) zai)))))) sNil))))
structure Sm (left whole : Int) (ts : List Ti) : Prop where
  l0 : 0 <= left
  l1 : left + (ts.map (·.a)).sum = whole
  ok : ∀ t ∈ ts, (0 <= t.p /\ t.p <= 1) /\ 1 <= t.a /\ (0 <= t.w /\ t.w <= 11) /\ (0 <= t.d /\ t.d <= 29)
  nd : (ts.map (·.w)).Nodup
theorem mod9 (m whole : Int) (h : 0 <= whole) (σ : Sto) : ∃ z : Int, 0 < z /\ oIx (.lst [.int 9, .int (1 + whole)]) (.int (m % 7 / 6)) σ = .ok (.int z) σ := by
  have h2 : m % 7 / 6 = 0 \/ m % 7 / 6 = 1 := by omega
  rcases h2 with h2 | h2
  · exact ⟨9, by decide, by rw [h2]; exact zcf (show atI _ ((0 : Nat) : Int) = _ from zaj rfl)⟩
  · exact ⟨1 + whole, by omega, by rw [h2]; exact zcf (show atI _ ((1 : Nat) : Int) = _ from zaj rfl)⟩
theorem small_step (c whole left k : Int) (ts : List Ti) (σ : Sto) (x6 x7 x8 x9 : Option D) (hk : 0 <= k) (hw : 0 <= whole) (hS : Sm left whole ts) (hl : ts.length <= 100) :
    ∃ left' ts' y6 y7 y8, Sm left' whole ts' /\ ts'.length <= ts.length + 1 /\ smallB [some (.int c), some (.int whole), some (.int left), some (.tup (ts.map Ti.D)), some (.ref σ.length), some (.int k), x6, x7, x8, x9] (σ ++ [.lst ((ts.map (·.w)).map D.int)])
      = .ok (.nx [some (.int c), some (.int whole), some (.int left'), some (.tup (ts'.map Ti.D)), some (.ref σ.length), some (.int k), y6, y7, y8, x9]) (σ ++ [.lst ((ts'.map (·.w)).map D.int)]) := by
  have m1 := mix_ap (c / 7) k hk
  generalize mixV (c / 7) k = m at m1
  obtain ⟨z, hz, ez⟩ := mod9 m whole hw (σ ++ [.lst ((ts.map (·.w)).map D.int)])
  have om := oMod_ap (σ := σ ++ [.lst ((ts.map (·.w)).map D.int)]) (m / 7) z hz
  have hq := Int.emod_nonneg (m / 7) (show z ≠ 0 by omega)
  generalize m / 7 % z = q at *
  have e := oIn_ints (σ := σ ++ [.lst ((ts.map (·.w)).map D.int)]) (neg := true) (w := m / 70 % 12) (x := .ref σ.length) (ws := ts.map (·.w)) (by simp)
  have a := append_end (σ := σ) (xs := (ts.map (·.w)).map D.int) (d := .int (m / 70 % 12)) (by simp; omega)
  have a2 : (ts.map (·.w)).map D.int ++ [D.int (m / 70 % 12)] = ((ts ++ [Ti.mk (m / 840 % 2) (min left (1 + q)) (m / 70 % 12) (m / 1680 % 30)]).map (·.w)).map D.int := by simp
  have ad : ∀ σ : Sto, oAdd (.tup (ts.map Ti.D)) (.tup [.tup [.int (m / 840 % 2), .int (min left (1 + q)), .int (m / 70 % 12), .int (m / 1680 % 30)]]) σ = .ok (.tup ((ts ++ [Ti.mk (m / 840 % 2) (min left (1 + q)) (m / 70 % 12) (m / 1680 % 30)]).map Ti.D)) σ := fun σ => by
    rw [oAdd_tup (by simp [cap]; omega), List.map_append]; rfl
  rw [a2] at a
  have mn := oMin2_ap (σ := σ ++ [.lst ((ts.map (·.w)).map D.int)]) left (1 + q)
  have hl0 := hS.l0
  by_cases h1 : min left (1 + q) > 0
  · cases h2 : (ts.map (·.w)).any (· == m / 70 % 12)
    · refine ⟨left - min left (1 + q), ts ++ [Ti.mk (m / 840 % 2) (min left (1 + q)) (m / 70 % 12) (m / 1680 % 30)], some (.int m), some (.int (min left (1 + q))), some (.int (m / 70 % 12)), ⟨by omega, ?_, ?_, ?_⟩, by simp, ?_⟩
      · have := hS.l1; simp only [List.map_append, List.map_cons, List.map_nil, List.sum_append, List.sum_cons, List.sum_nil]; omega
      · intro t ht
        rcases List.mem_append.mp ht with ht | ht
        · exact hS.ok t ht
        · rw [List.mem_singleton.mp ht]; dsimp only; omega
      · rw [List.map_append, List.nodup_append]
        refine ⟨hS.nd, by simp, fun x hx y hy exy => ?_⟩
        have hy' : y = m / 70 % 12 := by simpa using hy
        have h3 := List.any_eq_false.mp h2 x hx
        rw [exy, hy'] at h3; simp at h3
      · rw [h2] at e
        have hd : decide (min left (1 + q) > 0) = true := by simpa using h1
        have hd2 : decide (0 < min left (1 + q)) = true := hd
        generalize min left (1 + q) = am at *
        generalize (ts.map (·.w)).map D.int = G at *
        generalize ((ts ++ [Ti.mk (m / 840 % 2) am (m / 70 % 12) (m / 1680 % 30)]).map (·.w)).map D.int = G' at *
        generalize (ts ++ [Ti.mk (m / 840 % 2) am (m / 70 % 12) (m / 1680 % 30)]).map Ti.D = TT at *
        simp [m1, ez, om, mn, -oMin2_ap, hd2, e, a, ad]
    · refine ⟨left, ts, some (.int m), some (.int (min left (1 + q))), some (.int (m / 70 % 12)), hS, by omega, ?_⟩
      rw [h2] at e
      have hd2 : decide (0 < min left (1 + q)) = true := by simpa using h1
      generalize min left (1 + q) = am at *
      generalize (ts.map (·.w)).map D.int = G at *
      simp [m1, ez, om, mn, -oMin2_ap, hd2, e]
  · refine ⟨left, ts, some (.int m), some (.int (min left (1 + q))), some (.int (m / 70 % 12)), hS, by omega, ?_⟩
    have hd2 : decide (0 < min left (1 + q)) = false := by simpa using h1
    generalize min left (1 + q) = am at *
    generalize (ts.map (·.w)).map D.int = G at *
    simp [m1, ez, om, mn, -oMin2_ap, hd2]
theorem small_loop (c whole : Int) (hw : 0 <= whole) (σ : Sto) : ∀ (n i : Nat) (left : Int) (ts : List Ti) (x5 x6 x7 x8 x9 : Option D), Sm left whole ts -> ts.length + n <= 100 ->
    ∃ left' ts' y5 y6 y7 y8, Sm left' whole ts' /\ ts'.length <= ts.length + n /\ loop (tgN 5) smallB ((List.range' i n).map fun (k : Nat) => D.int k) [some (.int c), some (.int whole), some (.int left), some (.tup (ts.map Ti.D)), some (.ref σ.length), x5, x6, x7, x8, x9] (σ ++ [.lst ((ts.map (·.w)).map D.int)])
      = .ok (.nx [some (.int c), some (.int whole), some (.int left'), some (.tup (ts'.map Ti.D)), some (.ref σ.length), y5, y6, y7, y8, x9]) (σ ++ [.lst ((ts'.map (·.w)).map D.int)]) := by
  intro n
  induction n with
  | zero => intro i left ts x5 x6 x7 x8 x9 h _; exact ⟨left, ts, x5, x6, x7, x8, h, by omega, by rw [List.range'_zero, List.map_nil, loop_nil]⟩
  | succ n ih =>
    intro i left ts x5 x6 x7 x8 x9 h hl
    obtain ⟨l1, ts1, y6, y7, y8, s1, s2, e1⟩ := small_step c whole left (i : Int) ts σ x6 x7 x8 x9 (by omega) hw h (by omega)
    obtain ⟨l2, ts2, w5, w6, w7, w8, s3, s4, e2⟩ := ih (i + 1) l1 ts1 (some (.int i)) y6 y7 y8 x9 s1 (by omega)
    refine ⟨l2, ts2, w5, w6, w7, w8, s3, by omega, ?_⟩
    rw [List.range'_succ, List.map_cons, loop_tgN, <- e2]
    simp only [List.set_cons_succ, List.set_cons_zero]
    rw [e1, zak, loopK_nx]
theorem small_ap (c whole : Int) (hw : 0 <= whole) (σ : Sto) : ∃ (a b : Int) (ts : List Ti), (0 <= a /\ 0 <= b) /\ a + b + (ts.map (·.a)).sum = whole /\ ts.length <= 6 /\ (∃ l, Sm l whole ts) /\ f__law_small_stand [.int c, .int whole] σ = .ok (stD (c / 7 % 7) a b ts) σ := by
  have hm : 0 <= c % 7 /\ c % 7 < 7 := by omega
  obtain ⟨left, ts, y5, y6, y7, y8, hS, hl, e⟩ := small_loop c whole hw σ (c % 7).toNat 0 whole [] none none none none none ⟨hw, by simp, (fun t h => by cases h), List.nodup_nil⟩ (by simp; omega)
  simp only [List.map_nil] at e
  rw [<- rangeD_eq] at e
  have h0 := hS.l0
  have m9 := fun σ => mix_ap (c / 7) 9 (by decide) σ
  generalize mixV (c / 7) 9 = q at m9
  have om := oMod_ap (σ := σ ++ [.lst ((ts.map (·.w)).map D.int)]) q (left + 1) (by omega)
  have b1 := Int.emod_nonneg q (show left + 1 ≠ 0 by omega)
  have b2 := Int.emod_lt_of_pos q (show 0 < left + 1 by omega)
  generalize q % (left + 1) = sh at *
  refine ⟨sh, left - sh, ts, by omega, by have := hS.l1; omega, by simp at hl; omega, ⟨left, hS⟩, ?_⟩
  unfold f__law_small_stand g__law_small_stand stD
  simp only [zbt, frz_ap, run_ap, sSeq_ap, sSet_ap, eLst_ap, eTup_ap, aNil_ap, zak, lstK_0, tupK_0, xsO_ok, setK_ap, seqK_nx, List.map_cons, List.map_nil, List.length_cons, List.length_nil, List.cons_append, List.nil_append, List.set_cons_succ, List.set_cons_zero, List.replicate, Nat.reduceAdd, Nat.reduceSub, eVar_0, eVar_S]
  rw [sFor_ap]
  have hs : srcR (zap oMod (zar 0) (eC (.int 7))) [some (.int c), some (.int whole), some (.int whole), some (.tup []), some (.ref σ.length), none, none, none, none, none] (σ ++ [.lst []]) = .ok (.seq (zcr (c % 7).toNat)) (σ ++ [.lst []]) := by
    simp [rngK_ap (j := c % 7) (by omega) (by omega)]
  rw [hs, xsO_ok, forK_seq, e, zak, seqK_nx]
  have hcl : cl (.tup [.int (c / 7 % 7), .tup [.int sh, .int (left - sh)], .tup (ts.map Ti.D)]) = true := by simp
  generalize (ts.map (·.w)).map D.int = G at *
  generalize ts.map Ti.D = TT at *
  simp [m9, om]
  exact frzO_end hcl
@[simp] theorem eSl_ap (f : Ev -> M D) (lo hi : PF) (ρ : Ev) (σ : Sto) : eSl f lo hi ρ σ = (f ρ σ).bind (sl0K (ePart lo ρ) (ePart hi ρ)) := nr rfl
@[simp] theorem sl0K_ap (lo hi : M (Option Int)) (x : D) (σ : Sto) : sl0K lo hi x σ = (lo σ).bind (sl1K x hi) := nr rfl
@[simp] theorem sl1K_ap (x : D) (hi : M (Option Int)) (lo : Option Int) (σ : Sto) : sl1K x hi lo σ = (hi σ).bind (sl2K x lo) := nr rfl
@[simp] theorem ePart_n (ρ : Ev) (σ : Sto) : ePart none ρ σ = .ok none σ := nr rfl
@[simp] theorem ePart_s (f : Ev -> M D) (ρ : Ev) (σ : Sto) : ePart (some f) ρ σ = (f ρ σ).bind partK := nr rfl
@[simp] theorem partK_i (i : Int) (σ : Sto) : partK (.int i) σ = .ok (some i) σ := nr rfl
@[simp] theorem sl2K_tup (xs : List D) (lo hi : Option Int) (σ : Sto) : sl2K (.tup xs) lo hi σ = .ok (.tup (cutD xs lo hi)) σ := nr rfl
theorem ixL {P : D -> Prop} {xs : List D} {k : Int} (h0 : 0 <= k) (h1 : k < xs.length) (h : ∀ x ∈ xs, P x) : ∃ V, P V /\ ∀ σ, oIx (.lst xs) (.int k) σ = .ok V σ := by
  refine ⟨xs.getD k.toNat .non, ?_, fun σ => zcf (atI_D h0 h1)⟩
  have hn : k.toNat < xs.length := by omega
  rw [List.getD_eq_getElem?_getD, List.getElem?_eq_getElem hn]
  exact h _ (List.getElem_mem hn)
theorem frzList {xs : List D} (h : clL xs = true) (σ : Sto) : frzO σ (oList [.tup xs] σ) = .ok (.lst xs) σ := by
  have e : oList [.tup xs] σ = .ok (.ref σ.length) (σ ++ [.lst xs]) := nr rfl
  rw [e]
  have := frzO_lst (σ := σ) (j := []) (j' := []) h
  simpa using this
@[simp] theorem ix_l0 (a : D) (r : List D) (σ : Sto) : oIx (.lst (a :: r)) (.int 0) σ = .ok a σ := zcf (show atI _ ((0 : Nat) : Int) = _ from zaj rfl)
@[simp] theorem ix_l1 (a b : D) (r : List D) (σ : Sto) : oIx (.lst (a :: b :: r)) (.int 1) σ = .ok b σ := zcf (show atI _ ((1 : Nat) : Int) = _ from zaj rfl)
@[simp] theorem ix_l2 (a b c : D) (r : List D) (σ : Sto) : oIx (.lst (a :: b :: c :: r)) (.int 2) σ = .ok c σ := zcf (show atI _ ((2 : Nat) : Int) = _ from zaj rfl)
@[simp] theorem ix_l3 (a b c d : D) (r : List D) (σ : Sto) : oIx (.lst (a :: b :: c :: d :: r)) (.int 3) σ = .ok d σ := zcf (show atI _ ((3 : Nat) : Int) = _ from zaj rfl)
@[simp] theorem ix_l4 (a b c d e : D) (r : List D) (σ : Sto) : oIx (.lst (a :: b :: c :: d :: e :: r)) (.int 4) σ = .ok e σ := zcf (show atI _ ((4 : Nat) : Int) = _ from zaj rfl)
theorem ixm3 (a b c : D) (σ : Sto) : oIx (.tup [a, b, c]) (.int (-1)) σ = .ok c σ := oIx_tup rfl
theorem ixm4 (a b c d : D) (σ : Sto) : oIx (.tup [a, b, c, d]) (.int (-1)) σ = .ok d σ := oIx_tup rfl
theorem whole_bl (b : Bool) (σ : Sto) : f_is_whole [.bl b] σ = .ok (.bl false) σ := by unfold f_is_whole g_is_whole; simp
@[simp] theorem isb_si (s : Str) (σ : Sto) : oIsB .int (.str s) σ = .ok (.bl false) σ := nr rfl
@[simp] theorem isb_ti (s : List D) (σ : Sto) : oIsB .int (.tup s) σ = .ok (.bl false) σ := nr rfl
@[simp] theorem isb_li (s : List D) (σ : Sto) : oIsB .int (.lst s) σ = .ok (.bl false) σ := nr rfl
@[simp] theorem isb_lt (s : List D) (σ : Sto) : oIsB .tuple (.lst s) σ = .ok (.bl false) σ := nr rfl
@[simp] theorem isb_ll (s : List D) (σ : Sto) : oIsB .list (.lst s) σ = .ok (.bl true) σ := nr rfl
@[simp] theorem isb_st (s : Str) (σ : Sto) : oIsB .tuple (.str s) σ = .ok (.bl false) σ := nr rfl
@[simp] theorem isb_ts (s : List D) (σ : Sto) : oIsB .str (.tup s) σ = .ok (.bl false) σ := nr rfl
theorem whole_str (b : Str) (σ : Sto) : f_is_whole [.str b] σ = .ok (.bl false) σ := by unfold f_is_whole g_is_whole; simp
theorem whole_non (σ : Sto) : f_is_whole [.non] σ = .ok (.bl false) σ := by unfold f_is_whole g_is_whole; simp
theorem whole_lst (b : List D) (σ : Sto) : f_is_whole [.lst b] σ = .ok (.bl false) σ := by unfold f_is_whole g_is_whole; simp
theorem btw_no {x : D} (h : ∀ σ, f_is_whole [x] σ = .ok (.bl false) σ) (a b : D) (σ : Sto) : f_is_between [x, a, b] σ = .ok (.bl false) σ := by unfold f_is_between g_is_between; simp [h]
theorem pot_no {x : D} (h : ∀ σ, f_is_whole [x] σ = .ok (.bl false) σ) (σ : Sto) : f_is_pot [x] σ = .ok (.bl false) σ := by unfold f_is_pot g_is_pot; simp [btw_no h]
theorem word_no {x : D} (h : ∀ σ, f_is_whole [x] σ = .ok (.bl false) σ) (σ : Sto) : f_is_word [x] σ = .ok (.bl false) σ := by unfold f_is_word g_is_word; simp [btw_no h]
theorem number_no {x : D} (h : ∀ σ, f_is_whole [x] σ = .ok (.bl false) σ) (σ : Sto) : f_is_number [x] σ = .ok (.bl false) σ := by unfold f_is_number g_is_number; simp [btw_no h]
theorem side_no {x : D} (h : ∀ σ, f_is_whole [x] σ = .ok (.bl false) σ) (σ : Sto) : f_is_side [x] σ = .ok (.bl false) σ := by unfold f_is_side g_is_side; simp [btw_no h]
inductive Th where
  | strike (p s n : Int)
  | agree (p s n a b : Int) (ts : List Ti)
  | word (n : Int)
  | none_
def thD : Th -> D
  | .strike p s n => .tup [.str "strike", .int p, .int s, .int n]
  | .agree p s n a b ts => .tup [.str "agree", .int p, .int s, stD n a b ts]
  | .word n => .tup [.str "word", .int n]
  | .none_ => .non
@[simp] theorem thD_cl (t : Th) : cl (thD t) = true := by cases t <;> simp [thD]
def pB3 (p s : Int) : Bool := (decide (0 <= p) && decide (p <= 2)) && (decide (0 <= s) && decide (s <= 1))
def isTh : Th -> Bool
  | .strike p s n => pB3 p s && (decide (0 <= n) && decide (n <= 1000000))
  | .agree p s n a b ts => pB3 p s && stB n a b ts
  | .word n => decide (0 <= n) && decide (n <= 59)
  | .none_ => false
def eqTh : Th -> Int -> Int -> Int -> Bool
  | .strike p s n, p', s', n' => (p == p') && ((s == s') && (n == n'))
  | _, _, _, _ => false
theorem pot_int (i : Int) (σ : Sto) : f_is_pot [.int i] σ = .ok (.bl (decide (0 <= i) && decide (i <= 2))) σ := by unfold f_is_pot g_is_pot; simp [btw_int]
theorem ofside (x : D) (p s : Int) (y : D) (σ : Sto) : f_is_of_a_side [.tup [x, .int p, .int s, y]] σ = .ok (.bl (pB3 p s)) σ := by
  unfold f_is_of_a_side g_is_of_a_side pB3
  cases h : (decide (0 <= p) && decide (p <= 2)) <;> simp [pot_int, side_int, h]
theorem sw : (("strike" : Str) == "word") = false := by decide
theorem aw : (("agree" : Str) == "word") = false := by decide
theorem as_ : (("agree" : Str) == "strike") = false := by decide
theorem ws_ : (("word" : Str) == "strike") = false := by decide
theorem th_is (t : Th) (σ : Sto) : f_is_thing [thD t] σ = .ok (.bl (isTh t)) σ := by
  unfold f_is_thing g_is_thing
  cases t with
  | strike p s n =>
    simp only [thD, isTh]
    have o := ofside (.str "strike") p s (.int n) σ
    cases h : pB3 p s <;> rw [h] at o <;> simp [sw, o, number_int]
  | agree p s n a b ts =>
    simp only [thD, isTh]
    have o := ofside (.str "agree") p s (stD n a b ts) σ
    have i := stand_is n a b ts σ
    generalize stD n a b ts = S at *
    cases h : pB3 p s <;> rw [h] at o <;> simp [aw, as_, o, i]
  | word n => simp only [thD, isTh]; simp [word_int]
  | none_ => simp only [thD, isTh]; simp
theorem first_ap {P Q : Int} (hP : 0 <= P /\ P <= 2000000000000) (hQ : 0 <= Q /\ Q <= 2000000000000) (σ : Sto) : f_first [.int P, .int Q] σ = .ok (stD 0 P Q []) σ /\ stB 0 P Q [] = true := by
  have hb : stB 0 P Q [] = true := by
    simp only [stB, tiesB, Bool.and_eq_true, decide_eq_true_eq]
    exact ⟨by omega, ⟨hP, hQ⟩, by simp, by simp, by simp⟩
  refine ⟨?_, hb⟩
  have is := stand_is 0 P Q [] σ
  rw [hb] at is
  have s : f_stand [.int 0, .tup [.int P, .int Q], .non] σ = .ok (stD 0 P Q []) σ := by
    unfold f_stand g_stand
    unfold stD at is ⊢
    simp only [List.map_nil] at is ⊢
    simp [is]
  unfold f_first g_first
  simp [s]
def tot (ts : List Ti) : Int := (ts.map (·.a)).sum
theorem tot_app (ts : List Ti) (t : Ti) : tot (ts ++ [t]) = tot ts + t.a := by simp [tot]
theorem oSum_2 (a b : Int) (σ : Sto) : oSum [.tup [.int a, .int b]] σ = .ok (.int (a + b)) σ := by
  simp [oSum, intsOf]
theorem oSum_l2 (a b : Int) (σ : Sto) : oSum [.lst [.int a, .int b]] σ = .ok (.int (a + b)) σ := by
  simp [oSum, intsOf]
theorem oSum_ints (l : List Int) (σ : Sto) : oSum [.lst (l.map D.int)] σ = .ok (.int l.sum) σ := by
  simp [oSum]
theorem deals_ap (n a b : Int) (ts : List Ti) (hl : ts.length <= 6) (σ : Sto) : f_deals [stD n a b ts] σ = .ok (.int (a + b + tot ts)) σ := by
  have i2 : ∀ σ, oIx (stD n a b ts) (.int 2) σ = .ok (.tup (ts.map Ti.D)) σ := fun σ => by simp [stD]
  have i1 : ∀ σ, oIx (stD n a b ts) (.int 1) σ = .ok (.tup [.int a, .int b]) σ := fun σ => by simp [stD]
  have l := lc_map (ix := []) (fe := zap oIx (zar 0) (eC (.int 1))) (ds := ts.map Ti.D) (ρ := [some (stD n a b ts)]) (σ := σ) (src := srcS (zap oIx (zar 0) (eC (.int 2)))) (fun d => match d with | .tup [_, a, _, _] => a | _ => .non) (by simp [i2]) (by simp; omega) (fun d hd j => by obtain ⟨t, _, rfl⟩ := List.mem_map.mp hd; simp [Ti.D]) (fun d hd => by obtain ⟨t, _, rfl⟩ := List.mem_map.mp hd; simp [Ti.D])
  have l' : eFrz (eLC (srcS (zap oIx (zar 0) (eC (.int 2)))) [] (tgN 0) bTrue (zap oIx (zar 0) (eC (.int 1)))) [some (stD n a b ts)] σ = .ok (.lst ((ts.map (·.a)).map D.int)) σ := by
    rw [l, List.map_map, List.map_map]; rfl
  unfold f_deals g_deals
  generalize stD n a b ts = S at *
  have o := oSum_ints (ts.map (·.a)) σ
  generalize (ts.map (·.a)).map D.int = G at *
  simp [i1, l', oSum_2, o, tot, -eFrz_ap]
def LD (w s n a b : Int) (ts : List Ti) (d t : Int) : D := .obj 6 ["whole", "side", "stand", "day", "wait"] [.int w, .int s, stD n a b ts, .int d, .int t]
theorem claim_init (c : Nat) (hc : [4, 5, 6, 7].contains c = true) (w : D) (σ : Sto) : f_Claim___init__ [.ref σ.length, w] (σ ++ [.ins c []]) = .ok .non (σ ++ [.ins c [("whole", w)]]) := by
  unfold f_Claim___init__ g_Claim___init__
  have := putK2_end (ρ := [some (.ref σ.length), some w]) (σ := σ) (cs := [4, 5, 6, 7]) (f := "whole") (d := w) (c := c) (fs := []) hc (by simp)
  simp [this, putD]
theorem laid_init (w s S d t : D) (σ : Sto) : f_Laid___init__ [.ref σ.length, w, s, S, d, t] (σ ++ [.ins 6 []]) = .ok .non (σ ++ [.ins 6 [("whole", w), ("side", s), ("stand", S), ("day", d), ("wait", t)]]) := by
  have c := claim_init 6 rfl w σ
  have e := fun (cs : List Nat) (hc : cs.contains 6 = true) (f : Str) (v : D) (fs : List (Str × D)) (hl : fs.length < 1000) => putK2_end (ρ := [some (.ref σ.length), some w, some s, some S, some d, some t]) (σ := σ) (cs := cs) (f := f) (d := v) (c := 6) (fs := fs) hc hl
  have p1 : putD "side" s [("whole", w)] = ([("whole", w), ("side", s)] : List (Str × D)) := rfl
  have p2 : putD "stand" S [("whole", w), ("side", s)] = ([("whole", w), ("side", s), ("stand", S)] : List (Str × D)) := rfl
  have p3 : putD "day" d [("whole", w), ("side", s), ("stand", S)] = ([("whole", w), ("side", s), ("stand", S), ("day", d)] : List (Str × D)) := rfl
  have p4 : putD "wait" t [("whole", w), ("side", s), ("stand", S), ("day", d)] = ([("whole", w), ("side", s), ("stand", S), ("day", d), ("wait", t)] : List (Str × D)) := rfl
  unfold f_Laid___init__ g_Laid___init__
  simp [c, e, p1, p2, p3, p4]
theorem taken_init (w s : D) (σ : Sto) : f_Taken___init__ [.ref σ.length, w, s] (σ ++ [.ins 7 []]) = .ok .non (σ ++ [.ins 7 [("whole", w), ("side", s)]]) := by
  have c := claim_init 7 rfl w σ
  have e := fun (cs : List Nat) (hc : cs.contains 7 = true) (f : Str) (v : D) (fs : List (Str × D)) (hl : fs.length < 1000) => putK2_end (ρ := [some (.ref σ.length), some w, some s]) (σ := σ) (cs := cs) (f := f) (d := v) (c := 7) (fs := fs) hc hl
  have p1 : putD "side" s [("whole", w)] = ([("whole", w), ("side", s)] : List (Str × D)) := rfl
  unfold f_Taken___init__ g_Taken___init__
  simp [c, e, p1]
section
variable (w s n a b : Int) (ts : List Ti) (d t : Int) (σ : Sto)
theorem ld_ins : insOf σ (LD w s n a b ts d t) = some (6, ([("whole", .int w), ("side", .int s), ("stand", stD n a b ts), ("day", .int d), ("wait", .int t)] : List (Str × D))) := zbu rfl
theorem ld_side : oFld [6, 7] "side" (LD w s n a b ts d t) σ = .ok (.int s) σ := zce (ld_ins ..) rfl rfl
theorem ld_stand : oFld [6] "stand" (LD w s n a b ts d t) σ = .ok (stD n a b ts) σ := zce (ld_ins ..) rfl rfl
theorem ld_day : oFld [6, 8] "day" (LD w s n a b ts d t) σ = .ok (.int d) σ := zce (ld_ins ..) rfl rfl
theorem ld_wait : oFld [6] "wait" (LD w s n a b ts d t) σ = .ok (.int t) σ := zce (ld_ins ..) rfl rfl
theorem ld_waits (y : Int) : f_Laid_waits [LD w s n a b ts d t, .int y] σ = .ok (.bl (decide (y < d + t))) σ := by
  unfold f_Laid_waits g_Laid_waits
  have h1 := fun σ => ld_day w s n a b ts d t σ
  have h2 := fun σ => ld_wait w s n a b ts d t σ
  generalize LD w s n a b ts d t = L at *
  simp [h1, h2]
theorem ld_mwaits (fs : M (List D)) : mthK [(6, f_Laid_waits)] 2 "waits" fs (LD w s n a b ts d t) σ = (fs σ).bind (mthK2 2 f_Laid_waits (LD w s n a b ts d t)) := mthK_ap (ld_ins ..) rfl rfl
end
theorem make_laid (w s n a b : Int) (ts : List Ti) (d t : Int) (σ : Sto) : frzO σ (makeK 6 6 f_Laid___init__ [.int w, .int s, stD n a b ts, .int d, .int t] σ) = .ok (LD w s n a b ts d t) σ := by
  rw [makeK_5, laid_init, noneO_ok, frzO_ins (by simp)]; rfl
theorem make_held (w : Int) (σ : Sto) : frzO σ (makeK 5 2 f_Claim___init__ [.int w] σ) = .ok (.obj 5 ["whole"] [.int w]) σ := by
  rw [makeK_1, claim_init 5 rfl, noneO_ok, frzO_ins (by simp)]; rfl
theorem make_taken (w s : Int) (σ : Sto) : frzO σ (makeK 7 3 f_Taken___init__ [.int w, .int s] σ) = .ok (.obj 7 ["whole", "side"] [.int w, .int s]) σ := by
  rw [makeK_2, taken_init, noneO_ok, frzO_ins (by simp)]; rfl
def shD (l : List (Int × Int)) : D := .dic (l.map fun p => .inl p.1) (l.map fun p => .int p.2)
def kvI (l : List (Int × Int)) : List (Key × D) := l.map fun p => (.inl p.1, .int p.2)
@[simp] theorem shD_cl (l : List (Int × Int)) : cl (shD l) = true := by unfold shD cl; exact clL_map fun _ => by simp
theorem dcOf_sh (l : List (Int × Int)) (σ : Sto) : dcOf σ (shD l) = some (kvI l) := by
  unfold dcOf shD kvI
  dsimp only
  rw [if_pos (by simp)]
  congr 1
  induction l with
  | nil => rfl
  | cons p l ih => simp only [List.map_cons, List.zip_cons_cons, ih]
def val (l : List (Int × Int)) (w : Int) : Option Int := (l.find? fun p => decide (p.1 = w)).map (·.2)
theorem find_kvI (w : Int) : ∀ (l : List (Int × Int)), findD (kvI l) (.inl w) = (val l w).map D.int
  | [] => rfl
  | p :: l => by
    have ih := find_kvI w l
    unfold findD kvI val at *
    rw [List.map_cons, List.find?_cons, List.find?_cons]
    by_cases e : p.1 = w
    · simp [e]
    · have e2 : ¬ (Sum.inl p.1 : Key) = Sum.inl w := fun z => e (Sum.inl.inj z)
      simp only [e, e2, decide_false] at ih ⊢
      exact ih
theorem din_ap (l : List (Int × Int)) (w : Int) (σ : Sto) : oDIn (.int w) (shD l) σ = .ok (.bl (val l w).isSome) σ := by
  unfold oDIn
  simp only [keyD, dcOf_sh, find_kvI]
  cases val l w <;> rfl
theorem dget_ap {l : List (Int × Int)} {w v : Int} (h : val l w = some v) (σ : Sto) : oDGet (shD l) (.int w) σ = .ok (.int v) σ := by
  unfold oDGet
  simp only [keyD, dcOf_sh, find_kvI, h]
  rfl
theorem dcp_ap (l : List (Int × Int)) (σ : Sto) : oDcp [shD l] σ = .ok (shD l) σ := by
  unfold oDcp
  simp only [dcOf_sh]
  unfold shD kvI
  simp [List.map_map, Function.comp_def]
theorem eqK_ap (l : List (Int × Int)) (σ : Sto) : oEqK (shD l) (shD l) σ = .ok (.bl true) σ := by
  unfold oEqK
  simp only [dcOf_sh]
  rw [if_pos (likeK_self fun p hp => by
    unfold kvI at hp
    obtain ⟨q, _, rfl⟩ := List.mem_map.mp hp
    exact ⟨_, rfl⟩)]
def putI (l : List (Int × Int)) (w v : Int) : List (Int × Int) := if l.any (fun p => decide (p.1 = w)) then l.map fun p => if p.1 = w then (p.1, v) else p else l ++ [(w, v)]
theorem putI_len (l : List (Int × Int)) (w v : Int) : (putI l w v).length <= l.length + 1 := by unfold putI; split <;> simp
theorem putDk_kvI (l : List (Int × Int)) (w v : Int) : putDk (kvI l) (.inl w) (.int v) = kvI (putI l w v) := by
  have ha : ((kvI l).any fun kv => decide (kv.1 = (Sum.inl w : Key))) = l.any fun p => decide (p.1 = w) := by
    unfold kvI
    rw [List.any_map]
    congr 1
    funext p
    simp
  unfold putDk putI
  rw [ha]
  split
  · unfold kvI
    rw [List.map_map, List.map_map]
    congr 1
    funext p
    simp only [Function.comp]
    by_cases e : p.1 = w
    · simp [e]
    · have e2 : ¬ (Sum.inl p.1 : Key) = Sum.inl w := fun z => e (Sum.inl.inj z)
      simp [e]
  · unfold kvI; rw [List.map_append]; rfl
def upA (s a x : Int) : Int := if s = 0 then a + x else a
def upB (s b x : Int) : Int := if s = 0 then b else b + x
theorem more_any (a b s x : Int) (σ : Sto) : f_with_more [.tup [.int a, .int b], .int s, .int x] σ = .ok (.tup [.int (upA s a x), .int (upB s b x)]) σ := by
  unfold f_with_more g_with_more upA upB
  by_cases h : s = 0
  · subst h; simp
  · have hb : (s == 0) = false := by simpa using h
    simp [hb, h]
def inT (l : List (Int × Int)) (t : Ti) : Bool := match val l t.w with | some v => decide (v < t.d) | none => false
theorem ix2 (t : Ti) (σ : Sto) : oIx t.D (.int 2) σ = .ok (.int t.w) σ := by unfold Ti.D; simp
theorem ix3 (t : Ti) (σ : Sto) : oIx t.D (.int 3) σ = .ok (.int t.d) σ := by unfold Ti.D; simp
theorem ix0 (t : Ti) (σ : Sto) : oIx t.D (.int 0) σ = .ok (.int t.p) σ := by unfold Ti.D; simp
theorem ix1 (t : Ti) (σ : Sto) : oIx t.D (.int 1) σ = .ok (.int t.a) σ := by unfold Ti.D; simp
def goes (l : List (Int × Int)) (y : Int) (t : Ti) : Option Int := if inT l t then some (1 - t.p) else if y ≥ t.d then some t.p else none
def sA (l : List (Int × Int)) (y : Int) : List Ti -> Int
  | [] => 0
  | t :: ts => (if goes l y t = some 0 then t.a else 0) + sA l y ts
def sB (l : List (Int × Int)) (y : Int) : List Ti -> Int
  | [] => 0
  | t :: ts => (match goes l y t with | some s => if s = 0 then 0 else t.a | none => 0) + sB l y ts
def sH (l : List (Int × Int)) (y : Int) : List Ti -> Int
  | [] => 0
  | t :: ts => (match goes l y t with | some _ => 0 | none => t.a) + sH l y ts
theorem sABH (l : List (Int × Int)) (y : Int) : ∀ ts : List Ti, sA l y ts + sB l y ts + sH l y ts = (ts.map (·.a)).sum
  | [] => by simp [sA, sB, sH]
  | t :: ts => by
    have := sABH l y ts
    simp only [sA, sB, sH, List.map_cons, List.sum_cons]
    cases h : goes l y t with
    | none => simp; omega
    | some s =>
      by_cases h0 : s = 0
      · subst h0; simp; omega
      · simp [h0]; omega
noncomputable abbrev cmB : Ev -> M Fl := (zct (sSet 5 (eFn 3 f_side_due [] (zah (zar 4) (zah (zar 1) (zah (zar 2) zai)))))
  (sIf (eT (zap oNotN (zar 5) (eC .non))) (sSet 3 (eFn 3 f_with_more [] (zah (zar 3) (zah (zar 5) (zah (zap oIx (zar 4) (eC (.int 1))) zai))))) sNil))
theorem sum2 (a b : Int) (σ : Sto) : oSum [.tup [.int a, .int b]] σ = .ok (.int (a + b)) σ := by simp [oSum, intsOf]
theorem sum3 (a b c : Int) (σ : Sto) : oSum [.tup [.int a, .int b, .int c]] σ = .ok (.int (a + (b + c))) σ := by simp [oSum, intsOf]
noncomputable def dueD (l : List (Int × Int)) (y w d t a b : Int) (ts : List Ti) : List Int := if y < d + t then [0, 0, w] else [a + sA l y ts, b + sB l y ts, sH l y ts]
theorem ld_whole (w s n a b : Int) (ts : List Ti) (d t : Int) (σ : Sto) : oFld [4, 5, 6, 7] "whole" (LD w s n a b ts d t) σ = .ok (.int w) σ := zce (ld_ins ..) rfl rfl
section
variable {SD : D} {l : List (Int × Int)} {σ : Sto} (hS : dcOf σ SD = some (kvI l))
include hS
theorem dinS (w : Int) : oDIn (.int w) SD σ = .ok (.bl (val l w).isSome) σ := by
  unfold oDIn
  simp only [keyD, hS, find_kvI]
  cases val l w <;> rfl
theorem dgetS {w v : Int} (h : val l w = some v) : oDGet SD (.int w) σ = .ok (.int v) σ := by
  unfold oDGet
  simp only [keyD, hS, find_kvI, h]
  rfl
theorem intime_ap (t : Ti) : f_shown_in_time [t.D, SD] σ = .ok (.bl (inT l t)) σ := by
  have i2 := fun σ => ix2 t σ
  have i3 := fun σ => ix3 t σ
  have di := dinS hS t.w
  unfold f_shown_in_time g_shown_in_time inT
  cases h : val l t.w with
  | none =>
    rw [h] at di
    generalize t.D = TD at *
    simp [i2, di]
  | some v =>
    have dg := dgetS hS h
    rw [h] at di
    generalize t.D = TD at *
    simp [i2, i3, di, dg]
theorem side_ap (y : Int) (t : Ti) : f_side_due [t.D, .int y, SD] σ = .ok (match goes l y t with | some s => .int s | none => .non) σ := by
  have it := intime_ap hS t
  have i0 := fun σ => ix0 t σ
  have i3 := fun σ => ix3 t σ
  unfold f_side_due g_side_due goes
  cases h : inT l t
  · rw [h] at it
    by_cases h2 : y ≥ t.d
    · have hb : decide (t.d <= y) = true := by simpa using h2
      generalize t.D = TD at *
      simp [it, i0, i3, hb, h2]
    · have hb : decide (t.d <= y) = false := by simpa using h2
      generalize t.D = TD at *
      simp [it, i0, i3, hb, h2]
  · rw [h] at it
    generalize t.D = TD at *
    simp [it, i0, other_ap]
theorem cm_loop (L : D) (y : Int) : ∀ (ts : List Ti) (a b : Int) (x4 x5 : Option D), ∃ y4 y5, loop (tgN 4) cmB (ts.map Ti.D) [some L, some (.int y), some SD, some (.tup [.int a, .int b]), x4, x5] σ
    = .ok (.nx [some L, some (.int y), some SD, some (.tup [.int (a + sA l y ts), .int (b + sB l y ts)]), y4, y5]) σ
  | [], a, b, x4, x5 => ⟨x4, x5, by simp [sA, sB]⟩
  | t :: ts, a, b, x4, x5 => by
    have sd := side_ap hS y t
    have i1 := ix1 t σ
    cases h : goes l y t with
    | none =>
      rw [h] at sd
      obtain ⟨y4, y5, e⟩ := cm_loop L y ts a b (some t.D) (some .non)
      refine ⟨y4, y5, ?_⟩
      have h1 : a + sA l y (t :: ts) = a + sA l y ts := by simp [sA, h]
      have h2 : b + sB l y (t :: ts) = b + sB l y ts := by simp [sB, h]
      rw [h1, h2, <- e, List.map_cons, loop_tgN]
      generalize t.D = TD at *
      simp [sd]
    | some s =>
      rw [h] at sd
      obtain ⟨y4, y5, e⟩ := cm_loop L y ts (upA s a t.a) (upB s b t.a) (some t.D) (some (.int s))
      refine ⟨y4, y5, ?_⟩
      have h1 : a + sA l y (t :: ts) = upA s a t.a + sA l y ts := by
        simp only [sA, h, upA, Option.some.injEq]; split <;> omega
      have h2 : b + sB l y (t :: ts) = upB s b t.a + sB l y ts := by
        simp only [sB, h, upB]; split <;> omega
      have m := more_any a b s t.a σ
      rw [h1, h2, <- e, List.map_cons, loop_tgN]
      generalize upA s a t.a = UA at *
      generalize upB s b t.a = UB at *
      generalize t.D = TD at *
      simp [sd, i1, m]
theorem comes_ap (w s n a b : Int) (ts : List Ti) (d t : Int) (hw : a + b + (ts.map (·.a)).sum = w) (y : Int) :
    f_Laid_comes [LD w s n a b ts d t, .int y, SD] σ = .ok (.tup ((dueD l y w d t a b ts).map D.int)) σ := by
  have h1 := fun σ => ld_whole w s n a b ts d t σ
  have h2 := fun σ => ld_stand w s n a b ts d t σ
  have h3 := fun fs σ => ld_mwaits w s n a b ts d t σ fs
  have h4 := fun σ => ld_waits w s n a b ts d t σ y
  have i1 : ∀ σ, oIx (stD n a b ts) (.int 1) σ = .ok (.tup [.int a, .int b]) σ := fun σ => by simp [stD]
  have i2 : ∀ σ, oIx (stD n a b ts) (.int 2) σ = .ok (.tup (ts.map Ti.D)) σ := fun σ => by simp [stD]
  have ab := sABH l y ts
  unfold f_Laid_comes g_Laid_comes dueD
  by_cases hy : y < d + t
  · have hb : decide (y < d + t) = true := by simpa using hy
    rw [hb] at h4
    rw [if_pos hy]
    generalize LD w s n a b ts d t = L at *
    simp [h1, h3, h4]
  · have hb : decide (y < d + t) = false := by simpa using hy
    rw [hb] at h4
    rw [if_neg hy]
    obtain ⟨y4, y5, e⟩ := cm_loop hS (LD w s n a b ts d t) y ts a b none none
    have eH : w - (a + sA l y ts + (b + sB l y ts)) = sH l y ts := by omega
    generalize LD w s n a b ts d t = L at *
    generalize stD n a b ts = ST at *
    generalize sA l y ts = SA at *
    generalize sB l y ts = SB at *
    generalize sH l y ts = SH at *
    generalize ts.map Ti.D = TT at *
    simp [h1, h2, h3, h4, i1, i2, e, sum2, eH]
end
theorem laid_told (w s n a b : Int) (ts : List Ti) (d t : Int) (σ : Sto) : f_Laid_told [LD w s n a b ts d t] σ = .ok (.tup [.str "laid", .int s, stD n a b ts, .int d]) σ := by
  have h1 := fun σ => ld_side w s n a b ts d t σ
  have h2 := fun σ => ld_stand w s n a b ts d t σ
  have h3 := fun σ => ld_day w s n a b ts d t σ
  have hc : cl (stD n a b ts) = true := by simp
  unfold f_Laid_told g_Laid_told
  generalize LD w s n a b ts d t = L at *
  generalize stD n a b ts = S at *
  simp [h1, h2, h3, hc]
theorem held_told (x : D) (σ : Sto) : f_Held_told [x] σ = .ok (.tup [.str "held"]) σ := by unfold f_Held_told g_Held_told; simp
theorem held_comes (w : Int) (y s : D) (σ : Sto) : f_Held_comes [.obj 5 ["whole"] [.int w], y, s] σ = .ok (.tup [.int 0, .int 0, .int w]) σ := by
  have h : ∀ σ, oFld [4, 5, 6, 7] "whole" (.obj 5 ["whole"] [.int w]) σ = .ok (.int w) σ := fun σ => zce (zbu rfl) rfl rfl
  unfold f_Held_comes g_Held_comes
  generalize D.obj 5 ["whole"] [.int w] = O at *
  simp [h]
theorem taken_told (w s : Int) (σ : Sto) : f_Taken_told [.obj 7 ["whole", "side"] [.int w, .int s]] σ = .ok (.tup [.str "taken", .int s]) σ := by
  have h : ∀ σ, oFld [6, 7] "side" (.obj 7 ["whole", "side"] [.int w, .int s]) σ = .ok (.int s) σ := fun σ => zce (zbu rfl) rfl rfl
  unfold f_Taken_told g_Taken_told
  generalize D.obj 7 ["whole", "side"] [.int w, .int s] = O at *
  simp [h]
theorem taken_comes (w s : Int) (y : D) (l : D) (σ : Sto) : f_Taken_comes [.obj 7 ["whole", "side"] [.int w, .int s], y, l] σ = .ok (.tup [.int (upA s 0 w), .int (upB s 0 w), .int 0]) σ := by
  have h : ∀ σ, oFld [6, 7] "side" (.obj 7 ["whole", "side"] [.int w, .int s]) σ = .ok (.int s) σ := fun σ => zce (zbu rfl) rfl rfl
  have h2 : ∀ σ, oFld [4, 5, 6, 7] "whole" (.obj 7 ["whole", "side"] [.int w, .int s]) σ = .ok (.int w) σ := fun σ => zce (zbu rfl) rfl rfl
  have m := fun σ => more_any 0 0 s w σ
  unfold f_Taken_comes g_Taken_comes
  generalize D.obj 7 ["whole", "side"] [.int w, .int s] = O at *
  generalize upA s 0 w = UA at *
  generalize upB s 0 w = UB at *
  simp [h, h2, m]
theorem eqL_two {f g : D -> D -> Option Bool} : ∀ {xs ys : List D}, (∀ x ∈ xs, ∀ y ∈ ys, ∃ b, f x y = some b /\ g x y = some b) -> ∃ b, eqL f xs ys = some b /\ eqL g xs ys = some b
  | [], [], _ => ⟨_, rfl, rfl⟩
  | [], _ :: _, _ => ⟨_, rfl, rfl⟩
  | _ :: _, [], _ => ⟨_, rfl, rfl⟩
  | x :: xs, y :: ys, h => by
    obtain ⟨b, h1, h2⟩ := h x List.mem_cons_self y List.mem_cons_self
    obtain ⟨c, h3, h4⟩ := eqL_two (f := f) (g := g) (xs := xs) (ys := ys) fun a ha b hb => h a (List.mem_cons_of_mem _ ha) b (List.mem_cons_of_mem _ hb)
    unfold eqL
    rw [h1, h2, h3, h4]
    cases b <;> exact ⟨_, rfl, rfl⟩
theorem eqD_two (σ : Sto) : ∀ (n : Nat) (x y : D), pl n x = true -> pl n y = true -> ∃ b, eqD σ n x y = some b /\ eqD [] n x y = some b := by
  intro n
  induction n with
  | zero => intro x y hx hy; cases x <;> first | (simp [pl] at hx; done) | (cases y <;> first | exact ⟨_, rfl, rfl⟩ | (simp [pl] at hy; done))
  | succ n ih =>
    intro x y hx hy
    cases x with
    | tup xs =>
      cases y with
      | tup ys =>
        simp only [pl, List.all_eq_true] at hx hy
        exact eqL_two fun a ha b hb => ih a b (hx a ha) (hy b hb)
      | _ => first | exact ⟨_, rfl, rfl⟩ | (simp [pl] at hy; done)
    | lst xs =>
      cases y with
      | lst ys =>
        simp only [pl, List.all_eq_true] at hx hy
        exact eqL_two fun a ha b hb => ih a b (hx a ha) (hy b hb)
      | _ => first | exact ⟨_, rfl, rfl⟩ | (simp [pl] at hy; done)
    | _ => first | (simp [pl] at hx; done) | (cases y <;> first | exact ⟨_, rfl, rfl⟩ | (simp [pl] at hy; done))
theorem oNe_tot {x y : D} (hx : pl 8 x = true) (hy : pl 8 y = true) : ∃ b, ∀ σ, oNe x y σ = .ok (.bl b) σ := by
  obtain ⟨b, _, h⟩ := eqD_two [] 8 x y hx hy
  refine ⟨!b, fun σ => ?_⟩
  obtain ⟨c, h1, h2⟩ := eqD_two σ 8 x y hx hy
  rw [h] at h2
  cases h2
  exact oNe_of h1
structure Pt where
  (l r u v t : Int)
def Pt.D (p : Pt) : L4.D := .tup [.int p.l, .int p.r, .int p.u, .int p.v, .int p.t]
def Pt.w (p : Pt) : Int := p.u + p.v
structure Pt.Ok (p : Pt) : Prop where
  l : p.l = 0 \/ p.l = 1
  r : p.r = 2 \/ p.r = 3
  u : 0 <= p.u /\ p.u <= 1000000
  v : 0 <= p.v /\ p.v <= 1000000
  t : 1 <= p.t /\ p.t <= 6
@[simp] theorem Pt.cl (p : Pt) : L4.cl p.D = true := by simp [Pt.D]
theorem Pt.i0 (p : Pt) (σ : Sto) : oIx p.D (.int 0) σ = .ok (.int p.l) σ := by unfold Pt.D; simp
theorem Pt.i1 (p : Pt) (σ : Sto) : oIx p.D (.int 1) σ = .ok (.int p.r) σ := by unfold Pt.D; simp
theorem Pt.i2 (p : Pt) (σ : Sto) : oIx p.D (.int 2) σ = .ok (.int p.u) σ := by unfold Pt.D; simp
theorem Pt.i3 (p : Pt) (σ : Sto) : oIx p.D (.int 3) σ = .ok (.int p.v) σ := by unfold Pt.D; simp
theorem Pt.i4 (p : Pt) (σ : Sto) : oIx p.D (.int 4) σ = .ok (.int p.t) σ := oIx_tup (show atI _ ((4 : Nat) : Int) = _ from zaj rfl)
inductive Cl where
  | held
  | laid (s n a b : Int) (ts : List Ti) (d : Int)
  | taken (s : Int)
def Cl.D (p : Pt) : Cl -> L4.D
  | .held => .obj 5 ["whole"] [.int p.w]
  | .laid s n a b ts d => LD p.w s n a b ts d p.t
  | .taken s => .obj 7 ["whole", "side"] [.int p.w, .int s]
structure Bs where
  y : Int
  C : Nat -> Cl
  S : Nat -> List (Int × Int)
  J : Sto
def upd {α : Type} (f : Nat -> α) (i : Nat) (x : α) : Nat -> α := fun j => if j = i then x else f j
theorem upd_same {α : Type} (f : Nat -> α) (i : Nat) (x : α) : upd f i x i = x := by simp [upd]
theorem upd_ne {α : Type} (f : Nat -> α) {i j : Nat} (x : α) (h : j ≠ i) : upd f i x j = f j := by simp [upd, h]
theorem set_range {α β : Type} (n : Nat) (f : Nat -> α) (g : Nat -> α -> β) (i : Nat) (x : α) : ((List.range n).map fun j => g j (f j)).set i (g i x) = (List.range n).map fun j => g j (upd f i x j) := by
  apply List.ext_getElem?
  intro k
  rw [List.getElem?_set]
  by_cases h : i = k
  · subst h
    by_cases hk : i < n
    · simp [hk, upd_same]
    · simp [hk]
  · rw [if_neg h]
    by_cases hk : k < n
    · simp [hk, upd_ne f x (fun z => h z.symm)]
    · simp [hk]
def zcq (n : Nat) (P : Nat -> Pt) : D := .lst ((List.range n).map fun i => (P i).D)
def flds (n : Nat) (P : Nat -> Pt) (y : Int) : List (Str × D) := [("pots", zcq n P), ("day", .int y), ("claims", .ref 1), ("shown", .ref 2)]
def bkS (n : Nat) (P : Nat -> Pt) (B : Bs) : Sto :=
  .ins 8 (flds n P B.y) :: .lst ((List.range n).map fun i => (B.C i).D (P i)) :: .lst ((List.range n).map fun i => .ref (3 + i)) :: (((List.range n).map fun i => .dic (kvI (B.S i))) ++ B.J)
theorem ixR {n i : Nat} (f : Nat -> D) (h : i < n) : atI ((List.range n).map f) (i : Int) = some (f i) := zaj (by simp [h])
section
variable (n : Nat) (P : Nat -> Pt) (B : Bs)
theorem bk_ins : insOf (bkS n P B) (.ref 0) = some (8, flds n P B.y) := rfl
theorem bk_pots : oFld [8] "pots" (.ref 0) (bkS n P B) = .ok (zcq n P) (bkS n P B) := zce (bk_ins n P B) rfl rfl
theorem bk_day : oFld [6, 8] "day" (.ref 0) (bkS n P B) = .ok (.int B.y) (bkS n P B) := zce (bk_ins n P B) rfl rfl
theorem bk_claims : oFld [8] "claims" (.ref 0) (bkS n P B) = .ok (.ref 1) (bkS n P B) := zce (bk_ins n P B) rfl rfl
theorem bk_shown : oFld [8] "shown" (.ref 0) (bkS n P B) = .ok (.ref 2) (bkS n P B) := zce (bk_ins n P B) rfl rfl
theorem bk_mth {k : Nat} {m : Str} (f : List D -> M D) (fs : M (List D)) (h : (flds n P B.y).lookup m = none) : mthK [(8, f)] k m fs (.ref 0) (bkS n P B) = (fs (bkS n P B)).bind (mthK2 k f (.ref 0)) := mthK_ap (bk_ins n P B) rfl h
theorem len_pots (σ : Sto) : oLen [zcq n P] σ = .ok (.int n) σ := by unfold zcq; simp
theorem ix_pots {i : Nat} (h : i < n) (σ : Sto) : oIx (zcq n P) (.int i) σ = .ok (P i).D σ := zcf (ixR (fun i => (P i).D) h)
theorem ix_claims {i : Nat} (h : i < n) : oIx (.ref 1) (.int i) (bkS n P B) = .ok ((B.C i).D (P i)) (bkS n P B) := by
  have := ixR (fun i => (B.C i).D (P i)) h
  simp only [oIx, seqOf, bkS, lstAt, List.getElem?_cons_succ, List.getElem?_cons_zero, this]
theorem ix_shown {i : Nat} (h : i < n) : oIx (.ref 2) (.int i) (bkS n P B) = .ok (.ref (3 + i)) (bkS n P B) := by
  have := ixR (fun i => D.ref (3 + i)) h
  simp only [oIx, seqOf, bkS, lstAt, List.getElem?_cons_succ, List.getElem?_cons_zero, this]
theorem bk_dic {i : Nat} (h : i < n) : (bkS n P B)[3 + i]? = some (.dic (kvI (B.S i))) := by
  rw [Nat.add_comm]
  unfold bkS
  simp only [List.getElem?_cons_succ]
  rw [List.getElem?_append_left (by simpa using h)]
  simp [h]
theorem bk_dc {i : Nat} (h : i < n) : dcOf (bkS n P B) (.ref (3 + i)) = some (kvI (B.S i)) := by
  unfold dcOf
  simp only [bk_dic n P B h]
theorem set_day (y : Int) : (bkS n P B).set 0 (.ins 8 (flds n P y)) = bkS n P { B with y := y } := rfl
theorem set_claim (i : Nat) (c : Cl) : (bkS n P B).set 1 (.lst (((List.range n).map fun i => (B.C i).D (P i)).set i (c.D (P i)))) = bkS n P { B with C := upd B.C i c } := by
  have := set_range n B.C (fun j (c : Cl) => c.D (P j)) i c
  unfold bkS
  simp only [List.set_cons_succ, List.set_cons_zero]
  rw [this]
theorem set_dic {i : Nat} (hi : i < n) (l : List (Int × Int)) : (bkS n P B).set (3 + i) (.dic (kvI l)) = bkS n P { B with S := upd B.S i l } := by
  have := set_range n B.S (fun _ (l : List (Int × Int)) => Ob.dic (kvI l)) i l
  rw [Nat.add_comm]
  unfold bkS
  simp only [List.set_cons_succ]
  rw [List.set_append_left _ _ (by simpa using hi), this]
theorem bk_app (j : Sto) : bkS n P B ++ j = bkS n P { B with J := B.J ++ j } := by
  unfold bkS
  simp only [List.cons_append, List.append_assoc]
end
theorem check_ap (n : Nat) (P : Nat -> Pt) (B : Bs) {i : Nat} (h : i < n) : f_Book_check_pot [.ref 0, .int i] (bkS n P B) = .ok .non (bkS n P B) := by
  have h1 := bk_pots n P B
  have h2 := len_pots n P
  have hb : decide ((i : Int) <= (n : Int) - 1) = true := by simp; omega
  unfold f_Book_check_pot g_Book_check_pot
  generalize bkS n P B = σ at *
  generalize zcq n P = PL at *
  simp [h1, h2, btw_int, hb]
theorem mcheck (n : Nat) (P : Nat -> Pt) (B : Bs) (fs : M (List D)) : mthK [(8, f_Book_check_pot)] 2 "check_pot" fs (.ref 0) (bkS n P B) = (fs (bkS n P B)).bind (mthK2 2 f_Book_check_pot (.ref 0)) := bk_mth n P B _ _ rfl
def Cl.tl : Cl -> L4.D
  | .held => .tup [.str "held"]
  | .laid s n a b ts d => .tup [.str "laid", .int s, stD n a b ts, .int d]
  | .taken s => .tup [.str "taken", .int s]
@[simp] theorem Cl.tl_cl (c : Cl) : cl c.tl = true := by cases c <;> simp [Cl.tl]
theorem Cl.told (c : Cl) (p : Pt) (fs : M (List L4.D)) (σ : Sto) (hf : fs σ = .ok [] σ) : mthK [(5, f_Held_told), (6, f_Laid_told), (7, f_Taken_told)] 1 "told" fs (c.D p) σ = .ok c.tl σ := by
  cases c with
  | held => rw [show Cl.D p .held = .obj 5 ["whole"] [.int p.w] from rfl, mthK_ap (zbu rfl) rfl rfl, hf, zak, mthK2_0, held_told]; rfl
  | laid s n a b ts d => rw [show Cl.D p (.laid s n a b ts d) = LD p.w s n a b ts d p.t from rfl, mthK_ap (ld_ins ..) rfl rfl, hf, zak, mthK2_0, laid_told]; rfl
  | taken s => rw [show Cl.D p (.taken s) = .obj 7 ["whole", "side"] [.int p.w, .int s] from rfl, mthK_ap (zbu rfl) rfl rfl, hf, zak, mthK2_0, taken_told]; rfl
theorem told_ap (n : Nat) (P : Nat -> Pt) (B : Bs) {i : Nat} (h : i < n) : f_Book_told [.ref 0, .int i] (bkS n P B) = .ok (B.C i).tl (bkS n P B) := by
  have h1 := check_ap n P B h
  have h2 := fun fs => mcheck n P B fs
  have h3 := bk_claims n P B
  have h4 := ix_claims n P B h
  have h5 := fun fs hf => Cl.told (B.C i) (P i) fs (bkS n P B) hf
  have hc := Cl.tl_cl (B.C i)
  unfold f_Book_told g_Book_told
  generalize bkS n P B = σ at *
  generalize (B.C i).D (P i) = CD at *
  generalize (B.C i).tl = TL at *
  simp [h1, h2, h3, h4, h5, hc]
def duA (p : Pt) (y : Int) (l : List (Int × Int)) : Cl -> Int
  | .held => 0
  | .laid _ _ a _ ts d => if y < d + p.t then 0 else a + sA l y ts
  | .taken s => upA s 0 p.w
def duB (p : Pt) (y : Int) (l : List (Int × Int)) : Cl -> Int
  | .held => 0
  | .laid _ _ _ b ts d => if y < d + p.t then 0 else b + sB l y ts
  | .taken s => upB s 0 p.w
def duH (p : Pt) (y : Int) (l : List (Int × Int)) : Cl -> Int
  | .held => p.w
  | .laid _ _ _ _ ts d => if y < d + p.t then p.w else sH l y ts
  | .taken _ => 0
structure LOk (p : Pt) (s n a b : Int) (ts : List Ti) : Prop where
  hs : s = 0 \/ s = 1
  hn : 0 <= n /\ n <= 6
  ha : 0 <= a
  hb : 0 <= b
  hw : a + b + (ts.map (·.a)).sum = p.w
  ok : ∀ t ∈ ts, (0 <= t.p /\ t.p <= 1) /\ 1 <= t.a /\ (0 <= t.d /\ t.d <= 29)
def Cl.Ok (p : Pt) : Cl -> Prop
  | .held => True
  | .laid s n a b ts d => LOk p s n a b ts
  | .taken s => s = 0 \/ s = 1
def du3 (p : Pt) (y : Int) (l : List (Int × Int)) (c : Cl) : D := .tup [.int (duA p y l c), .int (duB p y l c), .int (duH p y l c)]
@[simp] theorem du3_cl (p : Pt) (y : Int) (l : List (Int × Int)) (c : Cl) : cl (du3 p y l c) = true := by simp [du3]
theorem Cl.comes (c : Cl) (p : Pt) (hc : c.Ok p) {SD : L4.D} {l : List (Int × Int)} {σ : Sto} (hS : dcOf σ SD = some (kvI l)) (y : Int) (fs : M (List L4.D)) (hf : fs σ = .ok [.int y, SD] σ) : mthK [(5, f_Held_comes), (6, f_Laid_comes), (7, f_Taken_comes)] 3 "comes" fs (c.D p) σ = .ok (du3 p y l c) σ := by
  cases c with
  | held => rw [show Cl.D p .held = .obj 5 ["whole"] [.int p.w] from rfl, mthK_ap (zbu rfl) rfl rfl, hf, zak, mthK2_2, held_comes]; rfl
  | laid s n a b ts d =>
    rw [show Cl.D p (.laid s n a b ts d) = LD p.w s n a b ts d p.t from rfl, mthK_ap (ld_ins ..) rfl rfl, hf, zak, mthK2_2, comes_ap hS _ _ _ _ _ _ _ _ hc.hw]
    by_cases hy : y < d + p.t <;> simp [dueD, du3, duA, duB, duH, hy]
  | taken s => rw [show Cl.D p (.taken s) = .obj 7 ["whole", "side"] [.int p.w, .int s] from rfl, mthK_ap (zbu rfl) rfl rfl, hf, zak, mthK2_2, taken_comes]; rfl
def Bs.du (B : Bs) (P : Nat -> Pt) (i : Nat) : D := du3 (P i) B.y (B.S i) (B.C i)
theorem due_ap (n : Nat) (P : Nat -> Pt) (B : Bs) {i : Nat} (h : i < n) (hc : (B.C i).Ok (P i)) : f_Book_due_of [.ref 0, .int i] (bkS n P B) = .ok (B.du P i) (bkS n P B) := by
  have h1 := check_ap n P B h
  have h2 := fun fs => mcheck n P B fs
  have h3 := bk_claims n P B
  have h4 := ix_claims n P B h
  have h6 := bk_day n P B
  have h7 := bk_shown n P B
  have h8 := ix_shown n P B h
  have h5 := fun fs hf => Cl.comes (B.C i) (P i) hc (bk_dc n P B h) B.y fs hf
  have hcl := du3_cl (P i) B.y (B.S i) (B.C i)
  unfold f_Book_due_of g_Book_due_of Bs.du
  generalize bkS n P B = σ at *
  generalize (B.C i).D (P i) = CD at *
  generalize du3 (P i) B.y (B.S i) (B.C i) = TL at *
  simp [h1, h2, h3, h4, h6, h7, h8, h5, hcl]
@[simp] theorem sFAug_ap (cs : List Nat) (f : Str) (fv fo : Ev -> M D) (ρ : Ev) (σ : Sto) : sFAug cs f fv fo ρ σ = xsO ρ (augK1 ρ cs f fv) (fo ρ σ) := xs_ap ..
theorem nextday_ap (n : Nat) (P : Nat -> Pt) (B : Bs) : f_Book_next_day [.ref 0] (bkS n P B) = .ok .non (bkS n P { B with y := B.y + 1 }) := by
  have h : ∀ ρ : Ev, augK1 ρ [6, 8] "day" (eC (.int 1)) (.ref 0) (bkS n P B) = .ok (.nx ρ) (bkS n P { B with y := B.y + 1 }) := fun ρ => rfl
  unfold f_Book_next_day g_Book_next_day
  generalize bkS n P B = σ at *
  generalize bkS n P { B with y := B.y + 1 } = σ' at *
  simp [h]
def shw (l : List (Int × Int)) (w y : Int) : List (Int × Int) := match val l w with
  | some _ => l
  | none => putI l w y
@[simp] theorem sSetD_ap (f fo fi : Ev -> M D) (ρ : Ev) (σ : Sto) : sSetD f fo fi ρ σ = xsO ρ (setD1 ρ fo fi) (f ρ σ) := xs_ap ..
@[simp] theorem setD1_ap (fo fi : Ev -> M D) (d : D) (ρ : Ev) (σ : Sto) : setD1 ρ fo fi d σ = xsO ρ (setD2 ρ fi d) (fo ρ σ) := xs_ap ..
@[simp] theorem setD2_ap (fi : Ev -> M D) (d x : D) (ρ : Ev) (σ : Sto) : setD2 ρ fi d x σ = xsO ρ (setD3 ρ d x) (fi ρ σ) := xs_ap ..
theorem setD3_bk (n : Nat) (P : Nat -> Pt) (B : Bs) {i : Nat} (h : i < n) (w v : Int) (hl : (B.S i).length < 1000) (ρ : Ev) : setD3 ρ (.int v) (.ref (3 + i)) (.int w) (bkS n P B) = .ok (.nx ρ) (bkS n P { B with S := upd B.S i (putI (B.S i) w v) }) := by
  unfold setD3
  simp only [keyD, bk_dic n P B h]
  rw [if_pos (show (kvI (B.S i)).length < cap by unfold kvI; simpa [cap] using hl), putDk_kvI, set_dic n P B h]
theorem dninS {SD : D} {l : List (Int × Int)} {σ : Sto} (hS : dcOf σ SD = some (kvI l)) (w : Int) : oDNotIn (.int w) SD σ = .ok (.bl (!(val l w).isSome)) σ := by
  unfold oDNotIn
  simp only [keyD, hS, find_kvI]
  cases val l w <;> rfl
theorem upd_self {α : Type} (f : Nat -> α) (i : Nat) : upd f i (f i) = f := by
  funext j
  by_cases h : j = i
  · rw [h, upd_same]
  · rw [upd_ne f _ h]
theorem show_ap (n : Nat) (P : Nat -> Pt) (B : Bs) {i : Nat} (h : i < n) (w : Int) (hw : 0 <= w /\ w <= 59) (hl : (B.S i).length < 1000) :
    f_Book_show [.ref 0, .int i, .int w] (bkS n P B) = .ok .non (bkS n P { B with S := upd B.S i (shw (B.S i) w B.y) }) := by
  have h1 := check_ap n P B h
  have h2 := fun fs => mcheck n P B fs
  have h6 := bk_day n P B
  have h7 := bk_shown n P B
  have h8 := ix_shown n P B h
  have h9 := dninS (bk_dc n P B h) w
  have hb : decide (0 <= w) = true := by simpa using hw.1
  have hb2 : decide (w <= 59) = true := by simpa using hw.2
  have h10 := fun ρ => setD3_bk n P B h w B.y hl ρ
  unfold f_Book_show g_Book_show shw
  cases hv : val (B.S i) w with
  | none =>
    rw [hv] at h9
    generalize bkS n P B = σ at *
    simp [h1, h2, h6, h7, h8, h9, word_int, hb, hb2, h10]
  | some v =>
    rw [hv] at h9
    simp only [upd_self]
    rw [show bkS n P { y := B.y, C := B.C, S := B.S, J := B.J } = bkS n P B from rfl]
    generalize bkS n P B = σ at *
    simp [h1, h2, h6, h7, h8, h9, word_int, hb, hb2]
theorem checkside_ap (s : Int) (hs : s = 0 \/ s = 1) (σ : Sto) : f_check_side [.int s] σ = .ok .non σ := by
  unfold f_check_side g_check_side
  rcases hs with rfl | rfl <;> simp [side_int]
theorem whole_ap (p : Pt) (σ : Sto) : f_whole_of [p.D] σ = .ok (.int p.w) σ := by
  have h2 := fun σ => p.i2 σ
  have h3 := fun σ => p.i3 σ
  unfold f_whole_of g_whole_of Pt.w
  generalize p.D = D at *
  simp [h2, h3]
theorem setL3_bk (n : Nat) (P : Nat -> Pt) (B : Bs) {i : Nat} (h : i < n) (c : Cl) (ρ : Ev) : setL3 ρ (c.D (P i)) (.ref 1) (.int i) (bkS n P B) = .ok (.nx ρ) (bkS n P { B with C := upd B.C i c }) := by
  unfold setL3 oSetL
  have e : ixN ((List.range n).map fun i => (B.C i).D (P i)).length (i : Int) = some i := by
    unfold ixN
    rw [List.length_map, List.length_range, if_pos (by omega), if_pos (by omega)]; simp
  have l : lstAt (bkS n P B) 1 = some ((List.range n).map fun i => (B.C i).D (P i)) := rfl
  simp only [l, e, set_claim]
theorem stOf_ap (n a b : Int) (ts : List Ti) (w : Int) (hst : stB n a b ts = true) (hl : ts.length <= 6) (hw : a + b + (ts.map (·.a)).sum = w) (σ : Sto) : f_is_stand_of [stD n a b ts, .int w] σ = .ok (.bl true) σ := by
  have h1 := stand_is n a b ts
  have h2 := deals_ap n a b ts hl
  rw [hst] at h1
  unfold tot at h2
  rw [hw] at h2
  unfold f_is_stand_of g_is_stand_of
  generalize stD n a b ts = S at *
  simp [h1, h2]
theorem oEq_tot {x y : D} (hx : pl 8 x = true) (hy : pl 8 y = true) : ∃ b, ∀ σ, oEq x y σ = .ok (.bl b) σ := by
  obtain ⟨b, _, h⟩ := eqD_two [] 8 x y hx hy
  refine ⟨b, fun σ => ?_⟩
  obtain ⟨c, h1, h2⟩ := eqD_two σ 8 x y hx hy
  rw [h] at h2
  cases h2
  exact oEq_of h1
theorem st_pl (n a b : Int) (ts : List Ti) : pl 8 (stD n a b ts) = true := by simp [pl, stD, Ti.D]
def agD (p s : Int) (S : D) : D := .tup [.str "agree", .int p, .int s, S]
theorem agreed_ap (i : Nat) (hi : i <= 2) (s n a b : Int) (hs : s = 0 \/ s = 1) (ts : List Ti) (hst : stB n a b ts = true) (σ : Sto) :
    f_is_agreed [.int i, .int s, stD n a b ts, agD i (1 - s) (stD n a b ts)] σ = .ok (.bl true) σ := by
  have h1 := fun σ => th_is (.agree i (1 - s) n a b ts) σ
  have h2 : isTh (.agree i (1 - s) n a b ts) = true := by
    simp only [isTh, pB3, hst, Bool.and_true, Bool.and_eq_true, decide_eq_true_eq]
    omega
  rw [h2] at h1
  have h3 := oEq_self (σ := σ) (x := agD i (1 - s) (stD n a b ts)) (by simp [pl, agD, stD, Ti.D])
  rw [show thD (.agree i (1 - s) n a b ts) = agD i (1 - s) (stD n a b ts) from rfl] at h1
  unfold f_is_agreed g_is_agreed
  unfold agD at *
  generalize stD n a b ts = S at *
  simp [h1, other_ap, h3]
def Cl.ish : Cl -> Bool
  | .held => true
  | _ => false
theorem Cl.isH (c : Cl) (p : Pt) (σ : Sto) : oIsO (htab [(5, true), (6, false), (7, false), (8, false)]) (c.D p) σ = .ok (.bl c.ish) σ := by
  cases c with
  | held => exact oIsO_ap (zbu rfl) rfl
  | laid => exact oIsO_ap (ld_ins ..) rfl
  | taken => exact oIsO_ap (zbu rfl) rfl
theorem maylie_ap (n : Nat) (P : Nat -> Pt) (B : Bs) {i : Nat} (h : i < n) (hi : i <= 2) (hP : (P i).Ok) (s m a b : Int) (hs : s = 0 \/ s = 1) (ts : List Ti) (hst : stB m a b ts = true) :
    f_Book_may_lie [.ref 0, .int i, .int s, stD m a b ts, agD i (1 - s) (stD m a b ts)] (bkS n P B) = .ok (.bl (B.C i).ish) (bkS n P B) := by
  have h3 := bk_claims n P B
  have h4 := ix_claims n P B h
  have h5 := bk_pots n P B
  have h6 := ix_pots n P h
  have hu := hP.u
  have hv := hP.v
  have f1 := fun σ => (first_ap (P := (P i).u) (Q := (P i).v) (by omega) (by omega) σ).1
  have g1 := fun σ => agreed_ap i hi s m a b hs ts hst σ
  obtain ⟨q, hq⟩ := oEq_tot (st_pl m a b ts) (st_pl 0 (P i).u (P i).v [])
  have i2 := fun σ => (P i).i2 σ
  have i3 := fun σ => (P i).i3 σ
  have o := fun σ => Cl.isH (B.C i) (P i) σ
  unfold f_Book_may_lie g_Book_may_lie
  generalize bkS n P B = σ at *
  generalize (B.C i).D (P i) = CD at *
  generalize stD m a b ts = S at *
  generalize stD 0 (P i).u (P i).v [] = S0 at *
  generalize (P i).D = PD at *
  generalize agD i (1 - s) S = AG at *
  generalize zcq n P = PL at *
  generalize (B.C i).ish = e0 at *
  cases e0
  · simp [h3, h4, o]
  · cases q <;> simp [h3, h4, h5, h6, o, i2, i3, f1, hq, g1]
theorem mmaylie (n : Nat) (P : Nat -> Pt) (B : Bs) (fs : M (List D)) : mthK [(8, f_Book_may_lie)] 5 "may_lie" fs (.ref 0) (bkS n P B) = (fs (bkS n P B)).bind (mthK2 5 f_Book_may_lie (.ref 0)) := bk_mth n P B _ _ rfl
theorem lay_ap (n : Nat) (P : Nat -> Pt) (B : Bs) {i : Nat} (h : i < n) (hi : i <= 2) (hP : (P i).Ok) (s m a b : Int) (hs : s = 0 \/ s = 1) (ts : List Ti) (hst : stB m a b ts = true) (hl : ts.length <= 6) (hw : a + b + (ts.map (·.a)).sum = (P i).w) :
    f_Book_lay [.ref 0, .int i, .int s, stD m a b ts, agD i (1 - s) (stD m a b ts)] (bkS n P B) = if (B.C i).ish then .ok .non (bkS n P { B with C := upd B.C i (.laid s m a b ts B.y) }) else .ex ⟨2⟩ (bkS n P B) := by
  have h1 := check_ap n P B h
  have h2 := fun fs => mcheck n P B fs
  have h3 := bk_claims n P B
  have h5 := bk_pots n P B
  have h6 := ix_pots n P h
  have h7 := fun σ => checkside_ap s hs σ
  have h8 := fun σ => whole_ap (P i) σ
  have h9 := fun σ => stOf_ap m a b ts _ hst hl hw σ
  have h10 := maylie_ap n P B h hi hP s m a b hs ts hst
  have h11 := fun fs => mmaylie n P B fs
  have h12 := bk_day n P B
  have i4 := fun σ => (P i).i4 σ
  have mk := fun σ => make_laid (P i).w s m a b ts B.y (P i).t σ
  have st := fun ρ => setL3_bk n P B h (.laid s m a b ts B.y) ρ
  rw [show Cl.D (P i) (.laid s m a b ts B.y) = LD (P i).w s m a b ts B.y (P i).t from rfl] at st
  unfold f_Book_lay g_Book_lay
  generalize bkS n P { B with C := upd B.C i (.laid s m a b ts B.y) } = σ' at *
  generalize bkS n P B = σ at *
  generalize LD (P i).w s m a b ts B.y (P i).t = L at *
  generalize stD m a b ts = S at *
  generalize (P i).D = PD at *
  generalize agD i (1 - s) S = AG at *
  generalize zcq n P = PL at *
  generalize (B.C i).ish = e0 at *
  cases e0
  · simp [h1, h2, h5, h6, h7, h8, h9, h10, h11]
  · simp [h1, h2, h3, h5, h6, h7, h8, h9, h10, h11, h12, i4, mk, st, -makeK_5]
def stkD (p s n : Int) : D := .tup [.str "strike", .int p, .int s, .int n]
theorem ldstrike_ap (w s n a b : Int) (ts : List Ti) (d t y : Int) (hs : s = 0 \/ s = 1) (hn : 0 <= n /\ n <= 6) (i : Nat) (hi : i <= 2) (σ : Sto) :
    f_Laid_may_strike [LD w s n a b ts d t, .int i, .int (1 - s), .int y, stkD i s n] σ = .ok (.bl (decide (y < d + t))) σ := by
  have h1 := fun σ => ld_side w s n a b ts d t σ
  have h2 := fun σ => ld_stand w s n a b ts d t σ
  have h3 := fun fs σ => ld_mwaits w s n a b ts d t σ fs
  have h4 := fun σ => ld_waits w s n a b ts d t σ y
  have i0 : ∀ σ, oIx (stD n a b ts) (.int 0) σ = .ok (.int n) σ := fun σ => by simp [stD]
  have t1 := fun σ => th_is (.strike i s n) σ
  have t2 : isTh (.strike i s n) = true := by
    simp only [isTh, pB3, Bool.and_eq_true, decide_eq_true_eq]
    omega
  rw [t2, show thD (.strike i s n) = stkD i s n from rfl] at t1
  have t3 := fun σ => oEq_self (σ := σ) (x := stkD i s n) (by simp [pl, stkD])
  unfold stkD at *
  unfold f_Laid_may_strike g_Laid_may_strike
  generalize LD w s n a b ts d t = L at *
  generalize stD n a b ts = S at *
  cases hb : decide (y < d + t)
  · rw [hb] at h4
    simp [h1, h2, h3, h4, other_ap]
  · rw [hb] at h4
    simp [h1, h2, h3, h4, other_ap, t1, t3, i0]
theorem mstrike (w s n a b : Int) (ts : List Ti) (d t : Int) (fs : M (List D)) (σ : Sto) : mthK [(5, f_Held_may_strike), (6, f_Laid_may_strike), (7, f_Taken_may_strike)] 5 "may_strike" fs (LD w s n a b ts d t) σ = (fs σ).bind (mthK2 5 f_Laid_may_strike (LD w s n a b ts d t)) := mthK_ap (ld_ins ..) rfl rfl
theorem strike_ap (n : Nat) (P : Nat -> Pt) (B : Bs) {i : Nat} (h : i < n) (hi : i <= 2) (s m a b : Int) (ts : List Ti) (d : Int) (hc : B.C i = .laid s m a b ts d) (hs : s = 0 \/ s = 1) (hm : 0 <= m /\ m <= 6) :
    f_Book_strike [.ref 0, .int i, .int (1 - s), stkD i s m] (bkS n P B) = if B.y < d + (P i).t then .ok .non (bkS n P { B with C := upd B.C i (.taken (1 - s)) }) else .ex ⟨2⟩ (bkS n P B) := by
  have h1 := check_ap n P B h
  have h2 := fun fs => mcheck n P B fs
  have h3 := bk_claims n P B
  have h4 := ix_claims n P B h
  rw [hc, show Cl.D (P i) (.laid s m a b ts d) = LD (P i).w s m a b ts d (P i).t from rfl] at h4
  have h5 := bk_pots n P B
  have h6 := ix_pots n P h
  have h7 := fun σ => checkside_ap (1 - s) (by omega) σ
  have h8 := fun σ => whole_ap (P i) σ
  have h10 := fun σ => ldstrike_ap (P i).w s m a b ts d (P i).t B.y hs hm i hi σ
  have h11 := fun fs σ => mstrike (P i).w s m a b ts d (P i).t fs σ
  have h12 := bk_day n P B
  have mk := fun σ => make_taken (P i).w (1 - s) σ
  have st := fun ρ => setL3_bk n P B h (.taken (1 - s)) ρ
  rw [show Cl.D (P i) (.taken (1 - s)) = .obj 7 ["whole", "side"] [.int (P i).w, .int (1 - s)] from rfl] at st
  unfold f_Book_strike g_Book_strike
  generalize bkS n P { B with C := upd B.C i (.taken (1 - s)) } = σ' at *
  generalize bkS n P B = σ at *
  generalize LD (P i).w s m a b ts d (P i).t = L at *
  generalize D.obj 7 ["whole", "side"] [.int (P i).w, .int (1 - s)] = TK at *
  generalize (P i).D = PD at *
  generalize stkD i s m = SK at *
  generalize zcq n P = PL at *
  by_cases hy : B.y < d + (P i).t
  · have hb : decide (B.y < d + (P i).t) = true := by simpa using hy
    rw [hb] at h10
    rw [if_pos hy]
    simp [h1, h2, h3, h4, h5, h6, h7, h8, h10, h11, h12, mk, st, -makeK_2]
  · have hb : decide (B.y < d + (P i).t) = false := by simpa using hy
    rw [hb] at h10
    rw [if_neg hy]
    simp [h1, h2, h3, h4, h7, h10, h11, h12]
inductive Stp (n : Nat) (P : Nat -> Pt) (c : Int) (B : Bs) : Bs -> Prop
  | day : Stp n P c B { B with y := B.y + 1 }
  | shw (i : Nat) (w : Int) (hi : i < n) (hc : c ≠ 0) : Stp n P c B { B with S := upd B.S i (shw (B.S i) w B.y) }
  | lay (i : Nat) (s m a b : Int) (ts : List Ti) (hi : i < n) (hh : B.C i = .held) (ok : LOk (P i) s m a b ts) (hc : c ≠ 0) : Stp n P c B { B with C := upd B.C i (.laid s m a b ts B.y) }
  | stk (i : Nat) (s m a b : Int) (ts : List Ti) (d : Int) (hi : i < n) (hh : B.C i = .laid s m a b ts d) (hy : B.y < d + (P i).t) (hs : s = 0 \/ s = 1) (hc : c ≠ 0) : Stp n P c B { B with C := upd B.C i (.taken (1 - s)) }
  | no (hc : c ≠ 0) : Stp n P c B B
theorem lok_st {p : Pt} (hp : p.Ok) {s m a b : Int} {ts : List Ti} (h : LOk p s m a b ts) (hl : ts.length <= 6) (hnd : (ts.map (·.w)).Nodup) (hw : ∀ t ∈ ts, 0 <= t.w /\ t.w <= 11) : stB m a b ts = true := by
  have hu := hp.u
  have hv := hp.v
  have e := h.hw
  unfold Pt.w at e
  have hle : ∀ (l : List Ti), (∀ t ∈ l, 1 <= t.a) -> 0 <= (l.map (·.a)).sum /\ ∀ t ∈ l, t.a <= (l.map (·.a)).sum := by
    intro l
    induction l with
    | nil => intro _; exact ⟨by simp, fun t ht => by cases ht⟩
    | cons x l ih =>
      intro hx
      obtain ⟨i1, i2⟩ := ih fun t ht => hx t (List.mem_cons_of_mem _ ht)
      have x1 := hx x List.mem_cons_self
      simp only [List.map_cons, List.sum_cons]
      refine ⟨by omega, fun t ht => ?_⟩
      rcases List.mem_cons.mp ht with rfl | ht
      · omega
      · have := i2 t ht; omega
  obtain ⟨s0, s1⟩ := hle ts fun t ht => (h.ok t ht).2.1
  have ha := h.ha
  have hb := h.hb
  have hn := h.hn
  unfold stB
  have : tiesB ts = true := (tiesB_iff ts).mpr ⟨fun t ht => by
    have o := h.ok t ht
    have w := hw t ht
    have := s1 t ht
    exact ⟨by omega, by omega, by omega, by omega, by omega, by omega, by omega, by omega⟩, hnd, hl⟩
  rw [this]
  simp only [Bool.and_true, Bool.and_eq_true, decide_eq_true_eq]
  omega
theorem one_ap {p : Pt} (hp : p.Ok) (c s : Int) (hs : s = 0 \/ s = 1) (σ : Sto) : ∃ (X : D) (m a b : Int) (ts : List Ti), f__law_small_stand [.int (c / 36), .int p.w] σ = .ok X σ /\ (∀ σ', oIx (.lst [X, .tup [.int 0, .tup [.int p.u, .int p.v], .tup []]]) (.int (c / 36 % 5 / 4)) σ' = .ok (stD m a b ts) σ') /\ LOk p s m a b ts /\ ts.length <= 6 /\ stB m a b ts = true := by
  have hu := hp.u
  have hv := hp.v
  obtain ⟨a, b, ts, ⟨ha, hb⟩, hsum, hl, ⟨lf, hSm⟩, es⟩ := small_ap (c / 36) p.w (by unfold Pt.w; omega) σ
  have h2 : c / 36 % 5 / 4 = 0 \/ c / 36 % 5 / 4 = 1 := by omega
  rcases h2 with h2 | h2
  · have ok : LOk p s (c / 36 / 7 % 7) a b ts := ⟨hs, by omega, ha, hb, hsum, fun t ht => by have := hSm.ok t ht; omega⟩
    refine ⟨_, c / 36 / 7 % 7, a, b, ts, es, fun σ' => ?_, ok, hl, lok_st hp ok hl hSm.nd fun t ht => (hSm.ok t ht).2.2.1⟩
    rw [h2]; exact zcf (show atI _ ((0 : Nat) : Int) = _ from zaj rfl)
  · have ok : LOk p s 0 p.u p.v [] := ⟨hs, by omega, hu.1, hv.1, by simp [Pt.w], fun t ht => by cases ht⟩
    refine ⟨_, 0, p.u, p.v, [], es, fun σ' => ?_, ok, by simp, lok_st hp ok (by simp) (by simp) fun t ht => by cases ht⟩
    rw [h2]; exact zcf (show atI _ ((1 : Nat) : Int) = _ from zaj rfl)
theorem hdl (ρ : Ev) (g : Ev -> M Fl) (σ : Sto) : handle ρ ⟨2⟩ (⟨(htab [(0, false), (1, false), (2, true)]), none, g⟩ :: []) σ = (g ρ σ).bind noF := by
  rw [handle_t rfl, hit_ap]
theorem try_ap (n : Nat) (P : Nat -> Pt) (B : Bs) (c : Int) (h1 : 1 <= n) (h3 : n <= 3) (hP : ∀ i, i < n -> (P i).Ok) (hC : ∀ i, i < n -> (B.C i).Ok (P i)) (hl : ∀ i, i < n -> (B.S i).length < 1000) :
    ∃ d B', f__law_try [.ref 0, zcq n P, .int c] (bkS n P B) = .ok d (bkS n P B') /\ Stp n P c B B' := by
  obtain ⟨i, hi, ei⟩ : ∃ i : Nat, i < n /\ c / 6 % (n : Int) = i := by
    have b1 := Int.emod_nonneg (c / 6) (show (n : Int) ≠ 0 by omega)
    have b2 := Int.emod_lt_of_pos (c / 6) (show (0 : Int) < n by omega)
    exact ⟨(c / 6 % (n : Int)).toNat, by omega, by omega⟩
  have hs : c / 18 % 2 = 0 \/ c / 18 % 2 = 1 := by omega
  obtain ⟨X, m, a, b, ts, e1, e2, ok, hl6, hst⟩ := one_ap (hP i hi) c (c / 18 % 2) hs (bkS n P B)
  have lp := len_pots n P
  have xp := ix_pots n P hi
  have om := fun σ => oMod_ap (σ := σ) (c / 6) (n : Int) (by omega)
  rw [ei] at om
  have i2 := fun σ => (P i).i2 σ
  have i3 := fun σ => (P i).i3 σ
  have ew : (P i).u + (P i).v = (P i).w := rfl
  have m1 := fun fs => bk_mth n P B (k := 1) (m := "next_day") f_Book_next_day fs rfl
  have m2 := fun fs => bk_mth n P B (k := 3) (m := "show") f_Book_show fs rfl
  have m3 := fun fs => bk_mth n P B (k := 5) (m := "lay") f_Book_lay fs rfl
  have m4 := fun fs => bk_mth n P B (k := 2) (m := "told") f_Book_told fs rfl
  have m5 := fun fs => bk_mth n P B (k := 4) (m := "strike") f_Book_strike fs rfl
  have k4 : ∀ (fn : List D -> M D) (x a b c : D) (σ : Sto), mthK2 4 fn x [a, b, c] σ = fn [x, a, b, c] σ := fun fn x a b c σ => mthK2_ap rfl
  unfold f__law_try g__law_try
  by_cases c1 : c % 6 < 2
  · have b1 : decide (c % 6 < 2) = true := by simpa using c1
    have nd := nextday_ap n P B
    refine ⟨.int i, _, ?_, .day⟩
    generalize bkS n P { B with y := B.y + 1 } = σ' at *
    generalize bkS n P B = σ at *
    generalize stD m a b ts = S at *
    generalize zcq n P = PL at *
    generalize (P i).D = PD at *
    simp [lp, xp, om, i2, i3, ew, e1, e2, b1, m1, nd]
  have hc0 : c ≠ 0 := fun z => c1 (by rw [z]; decide)
  have b1 : decide (c % 6 < 2) = false := by simpa using c1
  by_cases c2 : c % 6 < 4
  · have b2 : decide (c % 6 < 4) = true := by simpa using c2
    have sh := show_ap n P B hi (c / 18 % 12) (by omega) (hl i hi)
    refine ⟨.int i, _, ?_, .shw i (c / 18 % 12) hi hc0⟩
    generalize bkS n P { B with S := upd B.S i (shw (B.S i) (c / 18 % 12) B.y) } = σ' at *
    generalize bkS n P B = σ at *
    generalize stD m a b ts = S at *
    generalize zcq n P = PL at *
    generalize (P i).D = PD at *
    simp [lp, xp, om, i2, i3, ew, e1, e2, b1, b2, m2, sh]
  have b2 : decide (c % 6 < 4) = false := by simpa using c2
  by_cases c3 : c % 6 = 4
  · have b3 : (c % 6 == 4) = true := by simpa using c3
    have la := lay_ap n P B hi (by omega) (hP i hi) (c / 18 % 2) m a b hs ts hst hl6 ok.hw
    cases hh : (B.C i).ish
    · rw [hh] at la
      refine ⟨.int (-1), B, ?_, .no hc0⟩
      unfold agD at la
      generalize bkS n P B = σ at *
      generalize stD m a b ts = S at *
      generalize zcq n P = PL at *
      generalize (P i).D = PD at *
      simp at la
      simp [lp, xp, om, i2, i3, ew, e1, e2, b1, b2, b3, m3, la, hdl]
    · rw [hh] at la
      refine ⟨.int i, _, ?_, .lay i (c / 18 % 2) m a b ts hi (by cases hc : B.C i <;> rw [hc] at hh <;> first | rfl | cases hh) ok hc0⟩
      unfold agD at la
      generalize bkS n P { B with C := upd B.C i (.laid (c / 18 % 2) m a b ts B.y) } = σ' at *
      generalize bkS n P B = σ at *
      generalize stD m a b ts = S at *
      generalize zcq n P = PL at *
      generalize (P i).D = PD at *
      simp at la
      simp [lp, xp, om, i2, i3, ew, e1, e2, b1, b2, b3, m3, la]
  have b3 : (c % 6 == 4) = false := by simpa using c3
  have td := told_ap n P B hi
  by_cases c4 : c / 36 % 3 = 0
  · have b4 : (c / 36 % 3 == 0) = true := by simpa using c4
    cases hc : B.C i with
    | held =>
      rw [hc, show Cl.tl .held = .tup [.str "held"] from rfl] at td
      refine ⟨.int i, B, ?_, .no hc0⟩
      have w1 : (("held" : Str) == "laid") = false := by decide
      generalize bkS n P B = σ at *
      generalize stD m a b ts = S at *
      generalize zcq n P = PL at *
      generalize (P i).D = PD at *
      simp [lp, xp, om, i2, i3, ew, e1, e2, b1, b2, b3, b4, m4, td, w1]
    | taken s =>
      rw [hc, show Cl.tl (.taken s) = .tup [.str "taken", .int s] from rfl] at td
      refine ⟨.int i, B, ?_, .no hc0⟩
      have w1 : (("taken" : Str) == "laid") = false := by decide
      generalize bkS n P B = σ at *
      generalize stD m a b ts = S at *
      generalize zcq n P = PL at *
      generalize (P i).D = PD at *
      simp [lp, xp, om, i2, i3, ew, e1, e2, b1, b2, b3, b4, m4, td, w1]
    | laid s n' a' b' ts' d =>
      have ok' := hC i hi
      rw [hc] at ok'
      have ok' : LOk (P i) s n' a' b' ts' := ok'
      have i0 : ∀ σ, oIx (stD n' a' b' ts') (.int 0) σ = .ok (.int n') σ := fun σ => by simp [stD]
      have sk := strike_ap n P B hi (by omega) s n' a' b' ts' d hc ok'.hs ok'.hn
      rw [hc, show Cl.tl (.laid s n' a' b' ts' d) = .tup [.str "laid", .int s, stD n' a' b' ts', .int d] from rfl] at td
      unfold stkD at sk
      by_cases hy : B.y < d + (P i).t
      · rw [if_pos hy] at sk
        refine ⟨.int i, _, ?_, .stk i s n' a' b' ts' d hi hc hy ok'.hs hc0⟩
        generalize bkS n P { B with C := upd B.C i (.taken (1 - s)) } = σ' at *
        generalize bkS n P B = σ at *
        generalize stD m a b ts = S at *
        generalize stD n' a' b' ts' = S' at *
        generalize zcq n P = PL at *
        generalize (P i).D = PD at *
        simp [lp, xp, om, i2, i3, ew, e1, e2, b1, b2, b3, b4, m4, m5, td, i0, sk, k4]
      · rw [if_neg hy] at sk
        refine ⟨.int (-1), B, ?_, .no hc0⟩
        generalize bkS n P B = σ at *
        generalize stD m a b ts = S at *
        generalize stD n' a' b' ts' = S' at *
        generalize zcq n P = PL at *
        generalize (P i).D = PD at *
        simp [lp, xp, om, i2, i3, ew, e1, e2, b1, b2, b3, b4, m4, m5, td, i0, sk, k4, hdl]
  · have b4 : (c / 36 % 3 == 0) = false := by simpa using c4
    refine ⟨.int i, B, ?_, .no hc0⟩
    generalize bkS n P B = σ at *
    generalize stD m a b ts = S at *
    generalize zcq n P = PL at *
    generalize (P i).D = PD at *
    simp [lp, xp, om, i2, i3, ew, e1, e2, b1, b2, b3, b4]
theorem val_put {l : List (Int × Int)} {w : Int} (h : val l w = none) (y w' : Int) : val (putI l w y) w' = if w' = w then some y else val l w' := by
  have ha : l.any (fun p => decide (p.1 = w)) = false := by
    rw [List.any_eq_false]
    intro p hp
    unfold val at h
    rw [Option.map_eq_none_iff, List.find?_eq_none] at h
    exact h p hp
  unfold putI
  rw [ha]
  simp only [Bool.false_eq_true, if_false]
  unfold val at h ⊢
  rw [List.find?_append]
  by_cases e : w' = w
  · subst e
    rw [Option.map_eq_none_iff] at h
    rw [h]
    simp
  · rw [if_neg e]
    have : List.find? (fun p : Int × Int => decide (p.1 = w')) [(w, y)] = none := by
      simp only [List.find?_cons, List.find?_nil]
      have : ¬ w = w' := fun z => e z.symm
      simp [this]
    rw [this]
    simp
theorem goes_day {l : List (Int × Int)} {y : Int} {t : Ti} {s : Int} (h : goes l y t = some s) : goes l (y + 1) t = some s := by
  unfold goes at *
  split at h
  · rename_i h1; rw [if_pos h1]; exact h
  · rename_i h1
    rw [if_neg h1]
    split at h
    · rw [if_pos (by omega)]; exact h
    · cases h
theorem goes_shw {l : List (Int × Int)} {y : Int} {t : Ti} {s : Int} (w : Int) (h : goes l y t = some s) : goes (shw l w y) y t = some s := by
  unfold shw
  cases hv : val l w with
  | some v => exact h
  | none =>
    have vp := val_put hv y t.w
    dsimp only
    by_cases e : t.w = w
    · rw [if_pos e] at vp
      rw [<- e] at hv
      have h1 : inT l t = false := by unfold inT; rw [hv]
      unfold goes at *
      rw [h1] at h
      simp only [Bool.false_eq_true, if_false] at h
      split at h
      · rename_i h2
        have h3 : inT (putI l w y) t = false := by unfold inT; rw [vp]; simp; omega
        rw [h3]
        simp only [Bool.false_eq_true, if_false]
        rw [if_pos h2]; exact h
      · cases h
    · rw [if_neg e] at vp
      have h3 : inT (putI l w y) t = inT l t := by unfold inT; rw [vp]
      unfold goes at *
      rw [h3]; exact h
theorem s_nn (l : List (Int × Int)) (y : Int) : ∀ ts : List Ti, (∀ t ∈ ts, 1 <= t.a) -> 0 <= sA l y ts /\ 0 <= sB l y ts /\ 0 <= sH l y ts
  | [], _ => by simp [sA, sB, sH]
  | t :: ts, h => by
    obtain ⟨i1, i2, i3⟩ := s_nn l y ts fun t ht => h t (List.mem_cons_of_mem _ ht)
    have ha := h t List.mem_cons_self
    simp only [sA, sB, sH]
    cases g : goes l y t with
    | none => simp; omega
    | some s =>
      by_cases h0 : s = 0
      · subst h0; simp; omega
      · simp [h0]; omega
theorem s_mono {l l' : List (Int × Int)} {y y' : Int} : ∀ ts : List Ti, (∀ t ∈ ts, 1 <= t.a) -> (∀ t ∈ ts, ∀ s, goes l y t = some s -> goes l' y' t = some s) -> sA l y ts <= sA l' y' ts /\ sB l y ts <= sB l' y' ts
  | [], _, _ => by simp [sA, sB]
  | t :: ts, h, hg => by
    obtain ⟨i1, i2⟩ := s_mono ts (fun t ht => h t (List.mem_cons_of_mem _ ht)) fun t ht => hg t (List.mem_cons_of_mem _ ht)
    have ha := h t List.mem_cons_self
    have g1 := hg t List.mem_cons_self
    simp only [sA, sB]
    cases g : goes l y t with
    | none =>
      cases g' : goes l' y' t with
      | none => simp; omega
      | some s =>
        by_cases h0 : s = 0
        · subst h0; simp; omega
        · simp [h0]; omega
    | some s =>
      rw [g1 s g]
      omega
section
variable {p : Pt} (hp : p.Ok) {c : Cl} (hc : c.Ok p) (y : Int) (l : List (Int × Int))
include hp hc
theorem du_nn : 0 <= duA p y l c /\ 0 <= duB p y l c /\ 0 <= duH p y l c /\ duA p y l c + (duB p y l c + duH p y l c) = p.w := by
  have hu := hp.u
  have hv := hp.v
  have hw : 0 <= p.w := by unfold Pt.w; omega
  cases c with
  | held => simp [duA, duB, duH]; omega
  | laid s n a b ts d =>
    have hc : LOk p s n a b ts := hc
    obtain ⟨i1, i2, i3⟩ := s_nn l y ts fun t ht => (hc.ok t ht).2.1
    have e := sABH l y ts
    have := hc.hw
    have := hc.ha
    have := hc.hb
    simp only [duA, duB, duH]
    split <;> omega
  | taken s =>
    have hc : s = 0 \/ s = 1 := hc
    simp only [duA, duB, duH, upA, upB]
    rcases hc with rfl | rfl
    · rw [if_pos rfl, if_pos rfl]; omega
    · rw [if_neg (by decide), if_neg (by decide)]; omega
theorem du_mono {y' : Int} {l' : List (Int × Int)} (hy : y <= y') (hg : ∀ t s, goes l y t = some s -> goes l' y' t = some s) : duA p y l c <= duA p y' l' c /\ duB p y l c <= duB p y' l' c := by
  cases c with
  | held => simp [duA, duB]
  | laid s n a b ts d =>
    have hc : LOk p s n a b ts := hc
    obtain ⟨i1, i2⟩ := s_mono (l := l) (l' := l') (y := y) (y' := y') ts (fun t ht => (hc.ok t ht).2.1) fun t _ => hg t
    obtain ⟨j1, j2, j3⟩ := s_nn l' y' ts fun t ht => (hc.ok t ht).2.1
    have := hc.ha
    have := hc.hb
    simp only [duA, duB]
    split
    · split <;> omega
    · rw [if_neg (by omega), if_neg (by omega)]; omega
  | taken s => simp [duA, duB]
end
structure Iv (n : Nat) (P : Nat -> Pt) (q : Nat) (m : Int) (B : Bs) : Prop where
  ok : ∀ i, i < n -> (B.C i).Ok (P i)
  ld : ∀ i, i < n -> ∀ s k a b ts d, B.C i = .laid s k a b ts d -> d + m <= B.y
  m0 : 0 <= m
  m1 : m <= B.y
  sh : ∀ i, i < n -> (B.S i).length <= q
theorem shw_len (l : List (Int × Int)) (w y : Int) : (shw l w y).length <= l.length + 1 := by
  unfold shw
  split
  · omega
  · exact putI_len l w y
theorem stp_iv {n : Nat} {P : Nat -> Pt} (hP : ∀ i, i < n -> (P i).Ok) {q : Nat} {m c : Int} {B B' : Bs} (h : Iv n P q m B) (s : Stp n P c B B') :
    Iv n P (q + 1) (if c = 0 then m + 1 else 0) B' /\ ∀ i, i < n -> duA (P i) B.y (B.S i) (B.C i) <= duA (P i) B'.y (B'.S i) (B'.C i) /\ duB (P i) B.y (B.S i) (B.C i) <= duB (P i) B'.y (B'.S i) (B'.C i) := by
  have m0 := h.m0
  have m1 := h.m1
  cases s with
  | day =>
    refine ⟨⟨h.ok, fun i hi s k a b ts d e => ?_, by split <;> omega, by dsimp only; split <;> omega, fun i hi => by have := h.sh i hi; dsimp only; omega⟩, fun i hi => ?_⟩
    · have := h.ld i hi s k a b ts d e
      dsimp only
      split <;> omega
    · exact du_mono (hP i hi) (h.ok i hi) _ _ (by dsimp only; omega) fun t s g => goes_day g
  | shw i w hi hc =>
    rw [if_neg hc]
    refine ⟨⟨h.ok, fun i hi s k a b ts d e => ?_, by omega, by dsimp only; omega, fun j hj => ?_⟩, fun j hj => ?_⟩
    · have := h.ld i hi s k a b ts d e
      dsimp only
      omega
    · by_cases e : j = i
      · subst e
        dsimp only
        rw [upd_same]
        have := shw_len (B.S j) w B.y
        have := h.sh j hj
        omega
      · dsimp only
        rw [upd_ne _ _ e]
        have := h.sh j hj
        omega
    · by_cases e : j = i
      · subst e
        dsimp only
        rw [upd_same]
        exact du_mono (hP j hj) (h.ok j hj) _ _ (Int.le_refl _) fun t s g => goes_shw w g
      · dsimp only
        rw [upd_ne _ _ e]
        omega
  | lay i s k a b ts hi hh ok hc =>
    rw [if_neg hc]
    refine ⟨⟨fun j hj => ?_, fun j hj s k a b ts d e => ?_, by omega, by dsimp only; omega, fun j hj => by have := h.sh j hj; dsimp only; omega⟩, fun j hj => ?_⟩
    · by_cases e : j = i
      · subst e; dsimp only; rw [upd_same]; exact ok
      · dsimp only; rw [upd_ne _ _ e]; exact h.ok j hj
    · by_cases e' : j = i
      · subst e'
        dsimp only at e ⊢
        rw [upd_same] at e
        cases e
        omega
      · dsimp only at e ⊢
        rw [upd_ne _ _ e'] at e
        have := h.ld j hj _ _ _ _ _ _ e
        omega
    · by_cases e : j = i
      · subst e
        dsimp only
        rw [upd_same, hh]
        have := (hP j hj).t
        simp only [duA, duB]
        rw [if_pos (by omega), if_pos (by omega)]
        omega
      · dsimp only
        rw [upd_ne _ _ e]
        omega
  | stk i s k a b ts d hi hh hy hs hc =>
    rw [if_neg hc]
    refine ⟨⟨fun j hj => ?_, fun j hj s k a b ts d e => ?_, by omega, by dsimp only; omega, fun j hj => by have := h.sh j hj; dsimp only; omega⟩, fun j hj => ?_⟩
    · by_cases e : j = i
      · subst e; dsimp only; rw [upd_same]; show 1 - s = 0 \/ 1 - s = 1; omega
      · dsimp only; rw [upd_ne _ _ e]; exact h.ok j hj
    · by_cases e' : j = i
      · subst e'
        dsimp only at e ⊢
        rw [upd_same] at e
        cases e
      · dsimp only at e ⊢
        rw [upd_ne _ _ e'] at e
        have := h.ld j hj _ _ _ _ _ _ e
        omega
    · by_cases e : j = i
      · subst e
        dsimp only
        rw [upd_same, hh]
        obtain ⟨n1, n2, _⟩ := du_nn (hP j hj) (c := .taken (1 - s)) (show 1 - s = 0 \/ 1 - s = 1 by omega) B.y (B.S j)
        have z1 : duA (P j) B.y (B.S j) (.laid s k a b ts d) = 0 := by simp only [duA]; rw [if_pos hy]
        have z2 : duB (P j) B.y (B.S j) (.laid s k a b ts d) = 0 := by simp only [duB]; rw [if_pos hy]
        omega
      · dsimp only
        rw [upd_ne _ _ e]
        omega
  | no hc =>
    rw [if_neg hc]
    exact ⟨⟨h.ok, fun i hi s k a b ts d e => by have := h.ld i hi s k a b ts d e; omega, by omega, by omega, fun i hi => by have := h.sh i hi; omega⟩, fun i hi => ⟨Int.le_refl _, Int.le_refl _⟩⟩
theorem sH_end {l : List (Int × Int)} {y : Int} : ∀ ts : List Ti, (∀ t ∈ ts, t.d <= y) -> sH l y ts = 0
  | [], _ => rfl
  | t :: ts, h => by
    have i := sH_end (l := l) ts fun t ht => h t (List.mem_cons_of_mem _ ht)
    have ht := h t List.mem_cons_self
    simp only [sH, i]
    have : ∃ s, goes l y t = some s := by
      unfold goes
      by_cases h1 : inT l t = true
      · rw [if_pos h1]; exact ⟨_, rfl⟩
      · rw [if_neg h1, if_pos ht]; exact ⟨_, rfl⟩
    obtain ⟨s, e⟩ := this
    rw [e]; rfl
theorem end_H {n : Nat} {P : Nat -> Pt} (hP : ∀ i, i < n -> (P i).Ok) {q : Nat} {m : Int} {B : Bs} (h : Iv n P q m B) (hm : 40 <= m) {i : Nat} (hi : i < n) (hne : (B.C i).ish = false) : duH (P i) B.y (B.S i) (B.C i) = 0 := by
  have ok := h.ok i hi
  have m1 := h.m1
  have t := (hP i hi).t
  cases hc : B.C i with
  | held => rw [hc] at hne; cases hne
  | taken s => rfl
  | laid s k a b ts d =>
    have ld := h.ld i hi _ _ _ _ _ _ hc
    rw [hc] at ok
    have ok : LOk (P i) s k a b ts := ok
    simp only [duH]
    rw [if_neg (by omega)]
    exact sH_end ts fun t ht => by have := (ok.ok t ht).2.2; omega
@[simp] theorem sForN_ap (src : Ev -> M NX) (tg : D -> Ev -> Option Ev) (body : Ev -> M Fl) (ρ : Ev) (σ : Sto) : sForN src tg body ρ σ = xsO ρ (forNK tg body ρ) (src ρ σ) := xs_ap ..
theorem loopN_step {nx : NX} {tg : D -> Ev -> Option Ev} {body : Ev -> M Fl} {k i : Nat} {ρ ρ1 : Ev} {σ : Sto} {d : D} (h : nx i σ = some (some d)) (ht : tg d ρ = some ρ1) : loopN nx tg body (k + 1) i ρ σ = (body ρ1 σ).bind (loopK (loopN nx tg body k (i + 1))) := by
  rw [loopN]; simp only [h, ht]; rfl
theorem loopN_end {nx : NX} {tg : D -> Ev -> Option Ev} {body : Ev -> M Fl} {k i : Nat} {ρ : Ev} {σ : Sto} (h : nx i σ = some none) : loopN nx tg body (k + 1) i ρ σ = .ok (.nx ρ) σ := by
  rw [loopN]; simp only [h]
@[simp] theorem srcE_ap (f : Ev -> M D) (ρ : Ev) (σ : Sto) : srcE f ρ σ = (f ρ σ).bind enumK := nr rfl
theorem enumK_lst (xs : List D) (σ : Sto) : enumK (.lst xs) σ = .ok (nxE (.lst xs)) σ := nr rfl
theorem nxE_at {n i : Nat} (P : Nat -> Pt) (h : i < n) (σ : Sto) : nxE (zcq n P) i σ = some (some (.tup [.int i, (P i).D])) := by
  have : ((List.range n).map fun i => (P i).D)[i]? = some (P i).D := by simp [h]
  unfold nxE zcq lsOf
  simp only [this]
theorem nxE_end (n : Nat) (P : Nat -> Pt) (σ : Sto) : nxE (zcq n P) n σ = some none := by
  have : ((List.range n).map fun i => (P i).D)[n]? = none := by simp
  unfold nxE zcq lsOf
  simp only [this]
  simp
def ct (B : Bs) (P : Nat -> Pt) (h : Int) (i : Nat) : Int := (if (P i).l = h then duA (P i) B.y (B.S i) (B.C i) else 0) + (if (P i).r = h then duB (P i) B.y (B.S i) (B.C i) else 0)
def cs (f : Nat -> Int) : Nat -> Nat -> Int
  | _, 0 => 0
  | i, k + 1 => f i + cs f (i + 1) k
noncomputable abbrev coB : Ev -> M Fl := (sFor (srcS (eTup (zah (eC (.int 0)) (zah (eC (.int 1)) zai)))) (tgN 5) (sIf (eT (zap oEq (zap oIx (zar 4) (zar 5)) (zar 1))) (sAug (fun a b => a + b) 2 (zap oIx (eMth [(8, f_Book_due_of)] 2 "due_of" (zar 0) (zah (zar 3) zai)) (zar 5))) sNil))
theorem mdue (n : Nat) (P : Nat -> Pt) (B : Bs) (fs : M (List D)) : mthK [(8, f_Book_due_of)] 2 "due_of" fs (.ref 0) (bkS n P B) = (fs (bkS n P B)).bind (mthK2 2 f_Book_due_of (.ref 0)) := bk_mth n P B _ _ rfl
theorem mtold (n : Nat) (P : Nat -> Pt) (B : Bs) (fs : M (List D)) : mthK [(8, f_Book_told)] 2 "told" fs (.ref 0) (bkS n P B) = (fs (bkS n P B)).bind (mthK2 2 f_Book_told (.ref 0)) := bk_mth n P B _ _ rfl
theorem mcoin (n : Nat) (P : Nat -> Pt) (B : Bs) (fs : M (List D)) : mthK [(8, f_Book_coin_of)] 2 "coin_of" fs (.ref 0) (bkS n P B) = (fs (bkS n P B)).bind (mthK2 2 f_Book_coin_of (.ref 0)) := bk_mth n P B _ _ rfl
theorem co_step (n : Nat) (P : Nat -> Pt) (B : Bs) {i : Nat} (hi : i < n) (hc : (B.C i).Ok (P i)) (h a : Int) (x5 : Option D) : ∃ y5, coB [some (.ref 0), some (.int h), some (.int a), some (.int i), some (P i).D, x5] (bkS n P B) = .ok (.nx [some (.ref 0), some (.int h), some (.int (a + ct B P h i)), some (.int i), some (P i).D, y5]) (bkS n P B) := by
  have du := due_ap n P B hi hc
  have md := fun fs => mdue n P B fs
  have i0 := fun σ => (P i).i0 σ
  have i1 := fun σ => (P i).i1 σ
  refine ⟨some (.int 1), ?_⟩
  unfold coB ct
  unfold Bs.du du3 at du
  generalize bkS n P B = σ at *
  generalize duA (P i) B.y (B.S i) (B.C i) = A at *
  generalize duB (P i) B.y (B.S i) (B.C i) = Bb at *
  generalize duH (P i) B.y (B.S i) (B.C i) = H at *
  have sg : ∀ (o : Int -> Int -> Int) (f : Ev -> M D) (x0 x1 x3 x4 x5 : Option D) (x : D), sAug o 2 f [x0, x1, some x, x3, x4, x5] σ = xsO [x0, x1, some x, x3, x4, x5] (augK o 2 [x0, x1, some x, x3, x4, x5] x) (f [x0, x1, some x, x3, x4, x5] σ) := fun o f x0 x1 x3 x4 x5 x => sAug_ap rfl
  generalize (P i).D = PD at *
  by_cases h1 : (P i).l = h
  · have b1 : ((P i).l == h) = true := by simpa using h1
    rw [if_pos h1]
    by_cases h2 : (P i).r = h
    · have b2 : ((P i).r == h) = true := by simpa using h2
      rw [if_pos h2]
      simp [i0, i1, b1, b2, md, du, sg, Int.add_assoc]
    · have b2 : ((P i).r == h) = false := by simpa using h2
      rw [if_neg h2]
      simp [i0, i1, b1, b2, md, du, sg]
  · have b1 : ((P i).l == h) = false := by simpa using h1
    rw [if_neg h1]
    by_cases h2 : (P i).r = h
    · have b2 : ((P i).r == h) = true := by simpa using h2
      rw [if_pos h2]
      simp [i0, i1, b1, b2, md, du, sg]
    · have b2 : ((P i).r == h) = false := by simpa using h2
      rw [if_neg h2]
      simp [i0, i1, b1, b2]
theorem co_loop (n : Nat) (P : Nat -> Pt) (B : Bs) (hn : n <= 3) (hC : ∀ i, i < n -> (B.C i).Ok (P i)) (h : Int) : ∀ (k i : Nat) (f : Nat) (a : Int) (x3 x4 x5 : Option D), i + k = n -> f = 1001 - i -> ∃ y3 y4 y5,
    loopN (nxE (zcq n P)) (tgT 2 (tgCons (tgN 3) (tgCons (tgN 4) tgNil))) coB f i [some (.ref 0), some (.int h), some (.int a), x3, x4, x5] (bkS n P B) = .ok (.nx [some (.ref 0), some (.int h), some (.int (a + cs (ct B P h) i k)), y3, y4, y5]) (bkS n P B) := by
  intro k
  induction k with
  | zero =>
    intro i f a x3 x4 x5 hik hf
    obtain rfl : i = n := by omega
    refine ⟨x3, x4, x5, ?_⟩
    obtain ⟨f', rfl⟩ : ∃ f', f = f' + 1 := ⟨f - 1, by omega⟩
    rw [loopN_end (nxE_end i P _)]
    simp [cs]
  | succ k ih =>
    intro i f a x3 x4 x5 hik hf
    have hi : i < n := by omega
    obtain ⟨f', rfl⟩ : ∃ f', f = f' + 1 := ⟨f - 1, by omega⟩
    obtain ⟨y5, e⟩ := co_step n P B hi (hC i hi) h a x5
    obtain ⟨z3, z4, z5, e2⟩ := ih (i + 1) f' (a + ct B P h i) (some (.int i)) (some (P i).D) y5 (by omega) (by omega)
    refine ⟨z3, z4, z5, ?_⟩
    rw [loopN_step (nxE_at P hi _) (ρ1 := [some (.ref 0), some (.int h), some (.int a), some (.int i), some (P i).D, x5]) (nr rfl), e, zak, loopK_nx, e2]
    simp only [cs, Int.add_assoc]
theorem coin_ap (n : Nat) (P : Nat -> Pt) (B : Bs) (hn : n <= 3) (hC : ∀ i, i < n -> (B.C i).Ok (P i)) (h : Int) (hh : 0 <= h /\ h <= 3) : f_Book_coin_of [.ref 0, .int h] (bkS n P B) = .ok (.int (cs (ct B P h) 0 n)) (bkS n P B) := by
  have bp := bk_pots n P B
  obtain ⟨y3, y4, y5, e⟩ := co_loop n P B hn hC h n 0 1001 0 none none none (by omega) (by omega)
  rw [Int.zero_add] at e
  have hd : f_is_hand [.int h] (bkS n P B) = .ok (.bl true) (bkS n P B) := by
    have b1 : decide (0 <= h) = true := by simpa using hh.1
    have b2 : decide (h <= 3) = true := by simpa using hh.2
    unfold f_is_hand g_is_hand
    generalize bkS n P B = σ at *
    simp [btw_int, b1, b2]
  have ek : enumK (zcq n P) (bkS n P B) = .ok (nxE (zcq n P)) (bkS n P B) := enumK_lst ..
  have fk : ∀ (tg : D -> Ev -> Option Ev) (body : Ev -> M Fl) (ρ : Ev) (nx : NX), forNK tg body ρ nx = loopN nx tg body 1001 0 ρ := fun _ _ _ _ => rfl
  unfold coB at e
  unfold f_Book_coin_of g_Book_coin_of
  generalize bkS n P B = σ at *
  generalize zcq n P = PL at *
  simp [hd, bp, ek, fk, e, -sFor_ap]
def tr (x : Int × Int × Int) : D := .tup [.int x.1, .int x.2.1, .int x.2.2]
def ahL (n : Nat) (A : Nat -> Int × Int × Int) : D := .lst ((List.range n).map fun i => tr (A i))
theorem ix_ahL {n i : Nat} (A : Nat -> Int × Int × Int) (h : i < n) (σ : Sto) : oIx (ahL n A) (.int i) σ = .ok (tr (A i)) σ := zcf (ixR (fun i => tr (A i)) h)
def Bs.tri (B : Bs) (P : Nat -> Pt) (i : Nat) : Int × Int × Int := (duA (P i) B.y (B.S i) (B.C i), duB (P i) B.y (B.S i) (B.C i), duH (P i) B.y (B.S i) (B.C i))
def dd (B : Bs) (P : Nat -> Pt) (i : Nat) : Int := duA (P i) B.y (B.S i) (B.C i) + duB (P i) B.y (B.S i) (B.C i)
theorem min3 (a b c : Int) (σ : Sto) : oMnI mnL [.tup [.int a, .int b, .int c]] σ = .ok (.int (min (min a b) c)) σ := by
  have : mnL [a, b, c] = min (min a b) c := by simp [mnL]
  simp [oMnI, intsOf, this]
theorem all_3 (σ : Sto) : oAll [.lst [.bl true, .bl true, .bl true]] σ = .ok (.bl true) σ := by simp [oAll, blsOf]
noncomputable abbrev kpB : Ev -> M Fl := (zct (sSet 5 (eMth [(8, f_Book_due_of)] 2 "due_of" (zar 0) (zah (zar 4) zai)))
  (zct (sIf (bOr (eT (zap oNe (zaq oLen (zah (zar 5) zai)) (eC (.int 3)))) (bOr (eT (zap oLt (zaq (oMnI mnL) (zah (zar 5) zai)) (eC (.int 0)))) (eT (zap oNe (zaq oSum (zah (zar 5) zai)) (zap oAdd (zap oIx (zap oIx (zar 1) (zar 4)) (eC (.int 2))) (zap oIx (zap oIx (zar 1) (zar 4)) (eC (.int 3)))))))) (zcs (eC (.bl false))) sNil)
  (zct (sIf (bNot (eT (zaq oAll (zah (eFrz (eLC (srcS (zar 5)) [] (tgN 0) bTrue (eAnd (eUn (oIsB .int) (zar 0)) (eNot (eUn (oIsB .bool) (zar 0)))))) zai)))) (zcs (eC (.bl false))) sNil)
  (zct (sIf (bOr (eT (zap oLt (zap oIx (zar 5) (eC (.int 0))) (zap oIx (zap oIx (zar 2) (zar 4)) (eC (.int 0))))) (eT (zap oLt (zap oIx (zar 5) (eC (.int 1))) (zap oIx (zap oIx (zar 2) (zar 4)) (eC (.int 1)))))) (zcs (eC (.bl false))) sNil)
  (zct (sIf (bAnd (eT (zap oEq (zap oIx (eMth [(8, f_Book_told)] 2 "told" (zar 0) (zah (zar 4) zai)) (eC (.int 0))) (eC (.str "taken")))) (eT (zap oNe (zap oIx (zar 5) (zap oIx (eMth [(8, f_Book_told)] 2 "told" (zar 0) (zah (zar 4) zai)) (eC (.int 1)))) (zaq oSum (zah (zar 5) zai))))) (zcs (eC (.bl false))) sNil)
  (sSet 3 (zap oAdd (zap oAdd (zar 3) (zap oIx (zar 5) (eC (.int 0)))) (zap oIx (zar 5) (eC (.int 1))))))))))
theorem lc3 (a b c : Int) (ρ : Ev) (σ : Sto) (h : zar 5 ρ σ = .ok (.tup [.int a, .int b, .int c]) σ) :
    eFrz (eLC (srcS (zar 5)) [] (tgN 0) bTrue (eAnd (eUn (oIsB .int) (zar 0)) (eNot (eUn (oIsB .bool) (zar 0))))) ρ σ = .ok (.lst [.bl true, .bl true, .bl true]) σ := by
  have := lc_map (ix := []) (ρ := ρ) (σ := σ) (src := srcS (zar 5)) (fe := eAnd (eUn (oIsB .int) (zar 0)) (eNot (eUn (oIsB .bool) (zar 0)))) (ds := [.int a, .int b, .int c]) (fun _ => .bl true) (by rw [srcS_ap, h, zak, seqK2_tup]) (by simp) (fun d hd j => by
    have : ∃ z : Int, d = .int z := by
      simp only [List.mem_cons, List.not_mem_nil, or_false] at hd
      rcases hd with rfl | rfl | rfl <;> exact ⟨_, rfl⟩
    obtain ⟨z, rfl⟩ := this
    simp) (fun _ _ => by simp)
  exact this
theorem kp_step (n : Nat) (P : Nat -> Pt) (B : Bs) (A : Nat -> Int × Int × Int) {i : Nat} (hi : i < n) (hP : (P i).Ok) (hc : (B.C i).Ok (P i)) (h0 : (A i).1 <= duA (P i) B.y (B.S i) (B.C i)) (h1 : (A i).2.1 <= duB (P i) B.y (B.S i) (B.C i)) (w : Int) (x5 : Option D) :
    ∃ y5, kpB [some (.ref 0), some (zcq n P), some (ahL n A), some (.int w), some (.int i), x5] (bkS n P B) = .ok (.nx [some (.ref 0), some (zcq n P), some (ahL n A), some (.int (w + dd B P i)), some (.int i), y5]) (bkS n P B) := by
  have du := due_ap n P B hi hc
  have td := told_ap n P B hi
  have md := fun fs => mdue n P B fs
  have mt := fun fs => mtold n P B fs
  have xp := ix_pots n P hi
  have xa := ix_ahL A hi
  have i2 := fun σ => (P i).i2 σ
  have i3 := fun σ => (P i).i3 σ
  have ew : (P i).u + (P i).v = (P i).w := rfl
  obtain ⟨n1, n2, n3, n4⟩ := du_nn hP hc B.y (B.S i)
  refine ⟨some (B.du P i), ?_⟩
  have tk : ∀ s, B.C i = .taken s -> (s = 0 \/ s = 1) /\ (s = 0 -> duA (P i) B.y (B.S i) (B.C i) = (P i).w) /\ (s = 1 -> duB (P i) B.y (B.S i) (B.C i) = (P i).w) := by
    intro s e
    have hc' := hc
    rw [e] at hc'
    refine ⟨hc', fun z => ?_, fun z => ?_⟩
    · rw [e, z]; simp [duA, upA]
    · rw [e, z]; simp [duB, upB]
  unfold kpB dd
  unfold Bs.du du3 at du ⊢
  unfold tr at xa
  generalize bkS n P B = σ at *
  generalize duA (P i) B.y (B.S i) (B.C i) = a at *
  generalize duB (P i) B.y (B.S i) (B.C i) = b at *
  generalize duH (P i) B.y (B.S i) (B.C i) = c at *
  have l3 := fun (x0 x1 x2 x3 x4 : Option D) => lc3 a b c [x0, x1, x2, x3, x4, some (.tup [.int a, .int b, .int c])] σ (by simp)
  obtain ⟨mm, hmm, mn⟩ : ∃ mm : Int, 0 <= mm /\ ∀ σ, oMnI mnL [.tup [.int a, .int b, .int c]] σ = .ok (.int mm) σ := ⟨_, by omega, fun σ => min3 a b c σ⟩
  have sm := sum3 a b c
  rw [n4] at sm
  have b1 : decide (mm < 0) = false := by simp; omega
  have b2 : decide (a < (A i).1) = false := by simp; omega
  have b3 : decide (b < (A i).2.1) = false := by simp; omega
  generalize (P i).D = PD at *
  generalize zcq n P = PL at *
  generalize ahL n A = AL at *
  generalize (P i).w = W at *
  cases hcc : B.C i with
  | held =>
    rw [hcc, show Cl.tl .held = .tup [.str "held"] from rfl] at td
    have w1 : (("held" : Str) == "taken") = false := by decide
    simp [md, du, mn, sm, xp, i2, i3, ew, b1, l3, all_3, xa, b2, b3, mt, td, w1, Int.add_assoc, -eFrz_ap]
  | laid s k a b ts d =>
    rw [hcc, show Cl.tl (.laid s k a b ts d) = .tup [.str "laid", .int s, stD k a b ts, .int d] from rfl] at td
    have w1 : (("laid" : Str) == "taken") = false := by decide
    generalize stD k a b ts = S at *
    simp [md, du, mn, sm, xp, i2, i3, ew, b1, l3, all_3, xa, b2, b3, mt, td, w1, Int.add_assoc, -eFrz_ap]
  | taken s =>
    obtain ⟨t1, t2, t3⟩ := tk s hcc
    rw [hcc, show Cl.tl (.taken s) = .tup [.str "taken", .int s] from rfl] at td
    rcases t1 with rfl | rfl
    · have e := t2 rfl
      subst e
      simp [md, du, mn, sm, xp, i2, i3, ew, b1, l3, all_3, xa, b2, b3, mt, td, Int.add_assoc, -eFrz_ap]
    · have e := t3 rfl
      subst e
      simp [md, du, mn, sm, xp, i2, i3, ew, b1, l3, all_3, xa, b2, b3, mt, td, Int.add_assoc, -eFrz_ap]
section
variable (n : Nat) (P : Nat -> Pt) (B : Bs) (A : Nat -> Int × Int × Int) (hn : n <= 3) (hP : ∀ i, i < n -> (P i).Ok) (hC : ∀ i, i < n -> (B.C i).Ok (P i)) (hA : ∀ i, i < n -> (A i).1 <= duA (P i) B.y (B.S i) (B.C i) /\ (A i).2.1 <= duB (P i) B.y (B.S i) (B.C i))
include hP hC hA
theorem kp_loop : ∀ (k i : Nat) (w : Int) (x4 x5 : Option D), i + k = n -> ∃ y4 y5,
    loop (tgN 4) kpB ((List.range' i k).map fun (k : Nat) => D.int k) [some (.ref 0), some (zcq n P), some (ahL n A), some (.int w), x4, x5] (bkS n P B) = .ok (.nx [some (.ref 0), some (zcq n P), some (ahL n A), some (.int (w + cs (dd B P) i k)), y4, y5]) (bkS n P B) := by
  intro k
  induction k with
  | zero => intro i w x4 x5 _; exact ⟨x4, x5, by simp [cs]⟩
  | succ k ih =>
    intro i w x4 x5 hik
    have hi : i < n := by omega
    obtain ⟨y5, e⟩ := kp_step n P B A hi (hP i hi) (hC i hi) (hA i hi).1 (hA i hi).2 w x5
    obtain ⟨z4, z5, e2⟩ := ih (i + 1) (w + dd B P i) (some (.int i)) y5 (by omega)
    refine ⟨z4, z5, ?_⟩
    rw [List.range'_succ, List.map_cons, loop_tgN]
    simp only [List.set_cons_succ, List.set_cons_zero]
    rw [e, zak, loopK_nx, e2]
    simp only [cs, Int.add_assoc]
omit hA hC in
theorem cs4 : ∀ (k i : Nat), i + k <= n -> cs (ct B P 0) i k + (cs (ct B P 1) i k + (cs (ct B P 2) i k + cs (ct B P 3) i k)) = cs (dd B P) i k := by
  intro k
  induction k with
  | zero => intro i _; simp [cs]
  | succ k ih =>
    intro i hik
    have := ih (i + 1) (by omega)
    have hl := (hP i (by omega)).l
    have hr := (hP i (by omega)).r
    simp only [cs]
    have : ct B P 0 i + (ct B P 1 i + (ct B P 2 i + ct B P 3 i)) = dd B P i := by
      unfold ct dd
      rcases hl with hl | hl <;> rcases hr with hr | hr <;> simp [hl, hr]
    omega
include hn in
theorem kept_ap : f__law_kept [.ref 0, zcq n P, ahL n A] (bkS n P B) = .ok (.bl true) (bkS n P B) := by
  have lp := len_pots n P
  obtain ⟨y4, y5, e⟩ := kp_loop n P B A hP hC hA n 0 0 none none (by omega)
  rw [Int.zero_add, <- rangeD_eq] at e
  have rk : ∀ σ, rngK (.int (n : Int)) σ = .ok (.seq (zcr n)) σ := fun σ => by have := rngK_ap (σ := σ) (j := (n : Int)) (by omega) (by omega); simpa using this
  have r4 : ∀ σ, rngK (.int 4) σ = .ok (.seq [.int 0, .int 1, .int 2, .int 3]) σ := fun σ => by have := rngK_ap (σ := σ) (j := 4) (by omega) (by omega); exact this
  have c4 := cs4 n P B hP n 0 (by omega)
  have lc := lc_map (ix := [0]) (ρ := [some (.ref 0), some (zcq n P), some (ahL n A), some (.int (cs (dd B P) 0 n)), y4, y5]) (σ := bkS n P B) (src := srcR (eC (.int 4))) (fe := eMth [(8, f_Book_coin_of)] 2 "coin_of" (zar 1) (zah (zar 0) zai)) (ds := [.int 0, .int 1, .int 2, .int 3]) (fun d => match d with | .int h => .int (cs (ct B P h) 0 n) | _ => .non) (by rw [srcR_ap, eC_ap, zak, r4]) (by simp) (fun d hd j => by
    have : ∃ h : Int, d = .int h /\ 0 <= h /\ h <= 3 := by
      simp only [List.mem_cons, List.not_mem_nil, or_false] at hd
      rcases hd with rfl | rfl | rfl | rfl <;> exact ⟨_, rfl, by decide, by decide⟩
    obtain ⟨h, rfl, hh⟩ := this
    rw [bk_app]
    have co := coin_ap n P { B with J := B.J ++ j } hn hC h hh
    have mc := fun fs => mcoin n P { B with J := B.J ++ j } fs
    rw [show cs (ct { B with J := B.J ++ j } P h) 0 n = cs (ct B P h) 0 n from rfl] at co
    generalize bkS n P { B with J := B.J ++ j } = σ at *
    simp [mc, co]) (fun d hd => by
    simp only [List.mem_cons, List.not_mem_nil, or_false] at hd
    rcases hd with rfl | rfl | rfl | rfl <;> simp)
  simp only [List.map_cons, List.map_nil] at lc
  have os : ∀ (a b c d : Int) (σ : Sto), oSum [.lst [.int a, .int b, .int c, .int d]] σ = .ok (.int (a + (b + (c + d)))) σ := fun a b c d σ => by simp [oSum, intsOf]
  have sm := os (cs (ct B P 0) 0 n) (cs (ct B P 1) 0 n) (cs (ct B P 2) 0 n) (cs (ct B P 3) 0 n)
  rw [c4] at sm
  unfold kpB at e
  unfold f__law_kept g__law_kept
  generalize bkS n P B = σ at *
  generalize zcq n P = PL at *
  generalize ahL n A = AL at *
  generalize cs (dd B P) 0 n = W at *
  generalize cs (ct B P 0) 0 n = W0 at *
  generalize cs (ct B P 1) 0 n = W1 at *
  generalize cs (ct B P 2) 0 n = W2 at *
  generalize cs (ct B P 3) 0 n = W3 at *
  generalize hR : zcr n = R at *
  simp [lp, rk, e, lc, sm, -eFrz_ap]
end
def mkP (m : Int) : Pt := ⟨m % 2, 2 + m / 2 % 2, if m / 3 % 3 / 2 = 0 then m / 4 % 41 else m / 4 % 1000000, m / 164 % 21, 1 + m / 4000 % 6⟩
theorem mkP_ok (m : Int) : (mkP m).Ok := by
  refine ⟨?_, ?_, ?_, ?_, ?_⟩ <;> simp only [mkP]
  · omega
  · omega
  · split <;> omega
  · omega
  · omega
noncomputable def potP (ns : List Int) (i : Nat) : Pt := mkP (mixV (cellV ns (1 + i)) 30)
noncomputable abbrev ptB : Ev -> M Fl := (zct (sSet 3 (eFn 2 f__law_mixed [] (zah (eFn 2 f__law_cell_at [] (zah (zar 0) (zah (zap oAdd (eC (.int 1)) (zar 2)) zai))) (zah (eC (.int 30)) zai))))
  (zct (sSet 4 (zap oIx (eLv (zah (zap oMod (zap oDiv (zar 3) (eC (.int 4))) (eC (.int 41))) (zah (zap oMod (zap oDiv (zar 3) (eC (.int 4))) (zap oPow (eC (.int 10)) (eC (.int 6)))) zai))) (zap oDiv (zap oMod (zap oDiv (zar 3) (eC (.int 3))) (eC (.int 3))) (eC (.int 2)))))
  (sExp (eMeth oAppend (zar 1) (zah (eTup (zah (zap oMod (zar 3) (eC (.int 2))) (zah (zap oAdd (eC (.int 2)) (zap oMod (zap oDiv (zar 3) (eC (.int 2))) (eC (.int 2)))) (zah (zar 4) (zah (zap oMod (zap oDiv (zar 3) (eC (.int 164))) (eC (.int 21))) (zah (zap oAdd (eC (.int 1)) (zap oMod (zap oDiv (zar 3) (eC (.int 4000))) (eC (.int 6)))) zai)))))) zai)))))
theorem pt_step (ns : List Int) (i : Nat) (ys : List D) (hy : ys.length < 1000) (x3 x4 : Option D) (σ : Sto) : ∃ y3 y4, ptB [some (.scr ns), some (.ref σ.length), some (.int i), x3, x4] (σ ++ [.lst ys]) = .ok (.nx [some (.scr ns), some (.ref σ.length), some (.int i), y3, y4]) (σ ++ [.lst (ys ++ [(potP ns i).D])]) := by
  have c := fun σ => cell_ap ns (1 + (i : Int)) (by omega) σ
  rw [show (1 + (i : Int)).toNat = 1 + i by omega] at c
  have mx := fun σ => mix_ap (cellV ns (1 + i)) 30 (by decide) σ
  unfold potP
  generalize cellV ns (1 + i) = z at *
  generalize mixV z 30 = m at *
  have hu : ∀ σ, oIx (.lst [.int (m / 4 % 41), .int (m / 4 % 1000000)]) (.int (m / 3 % 3 / 2)) σ = .ok (.int (mkP m).u) σ := fun σ => by
    have h2 : m / 3 % 3 / 2 = 0 \/ m / 3 % 3 / 2 = 1 := by omega
    simp only [mkP]
    rcases h2 with h2 | h2
    · rw [h2, if_pos rfl]; exact zcf (show atI _ ((0 : Nat) : Int) = _ from zaj rfl)
    · rw [h2, if_neg (by decide)]; exact zcf (show atI _ ((1 : Nat) : Int) = _ from zaj rfl)
  have ap := append_end (σ := σ) (xs := ys) (d := (mkP m).D) hy
  have eD : (mkP m).D = .tup [.int (m % 2), .int (2 + m / 2 % 2), .int (mkP m).u, .int (m / 164 % 21), .int (1 + m / 4000 % 6)] := rfl
  refine ⟨some (.int m), some (.int (mkP m).u), ?_⟩
  rw [eD] at ap ⊢
  generalize (mkP m).u = u at *
  unfold ptB
  simp [c, mx, hu, ap]
theorem pt_loop (ns : List Int) (σ : Sto) : ∀ (k i : Nat) (ys : List D) (x2 x3 x4 : Option D), ys.length + k <= 1000 -> ∃ y2 y3 y4, loop (tgN 2) ptB ((List.range' i k).map fun (k : Nat) => D.int k) [some (.scr ns), some (.ref σ.length), x2, x3, x4] (σ ++ [.lst ys]) = .ok (.nx [some (.scr ns), some (.ref σ.length), y2, y3, y4]) (σ ++ [.lst (ys ++ (List.range' i k).map fun i => (potP ns i).D)]) := by
  intro k
  induction k with
  | zero => intro i ys x2 x3 x4 _; exact ⟨x2, x3, x4, by simp⟩
  | succ k ih =>
    intro i ys x2 x3 x4 h
    obtain ⟨y3, y4, e⟩ := pt_step ns i ys (by omega) x3 x4 σ
    obtain ⟨z2, z3, z4, e2⟩ := ih (i + 1) (ys ++ [(potP ns i).D]) (some (.int i)) y3 y4 (by simp; omega)
    refine ⟨z2, z3, z4, ?_⟩
    rw [List.range'_succ, List.map_cons, loop_tgN]
    simp only [List.set_cons_succ, List.set_cons_zero]
    rw [e, zak, loopK_nx, e2]
    simp
theorem potL_cl (n : Nat) (P : Nat -> Pt) : clL ((List.range n).map fun i => (P i).D) = true := clL_map fun _ => by simp
theorem pots_ap (ns : List Int) (n : Nat) (hn : (n : Int) = 1 + cellV ns 0 % 3) (σ : Sto) : f__law_pots [.scr ns] σ = .ok (zcq n (potP ns)) σ := by
  have c := fun σ => cell_ap ns 0 (by decide) σ
  rw [Int.toNat_zero] at c
  obtain ⟨y2, y3, y4, e⟩ := pt_loop ns σ n 0 [] none none none (by simp; omega)
  rw [<- rangeD_eq] at e
  have rk : ∀ σ, rngK (.int (1 + cellV ns 0 % 3)) σ = .ok (.seq (zcr n)) σ := fun σ => by rw [<- hn]; have := rngK_ap (σ := σ) (j := (n : Int)) (by omega) (by omega); simpa using this
  have fz := frzO_lst (σ := σ) (j := []) (j' := []) (potL_cl n (potP ns))
  rw [List.append_nil, List.range_eq_range'] at fz
  rw [List.nil_append] at e
  unfold ptB at e
  unfold f__law_pots g__law_pots zcq
  rw [List.range_eq_range']
  generalize ((List.range' 0 n).map fun i => (potP ns i).D) = G at *
  generalize zcr n = R at *
  generalize cellV ns 0 = z at *
  simp [c, rk, e, fz, -p6]
theorem makes_ap (p : Pt) (hp : p.Ok) (σ : Sto) : f_makes_a_pot [p.D] σ = .ok (.bl true) σ := by
  have hd : ∀ (z : Int), 0 <= z /\ z <= 3 -> ∀ σ, f_is_hand [.int z] σ = .ok (.bl true) σ := fun z hz σ => by
    have b1 : decide (0 <= z) = true := by simpa using hz.1
    have b2 : decide (z <= 3) = true := by simpa using hz.2
    unfold f_is_hand g_is_hand
    simp [btw_int, b1, b2]
  have hl := hp.l
  have hr := hp.r
  have hu := hp.u
  have hv := hp.v
  have ht := hp.t
  have h1 := fun σ => hd p.l (by omega) σ
  have h2 := fun σ => hd p.r (by omega) σ
  have i4 := fun σ => p.i4 σ
  have ne : (p.l == p.r) = false := by simp; omega
  have bt : ∀ (z a b : Int), a <= z /\ z <= b -> ∀ σ, f_is_between [.int z, .int a, .int b] σ = .ok (.bl true) σ := fun z a b h σ => by
    have b1 : decide (a <= z) = true := by simpa using h.1
    have b2 : decide (z <= b) = true := by simpa using h.2
    rw [btw_int, b1, b2]; rfl
  have b3 := fun σ => bt p.u 0 1000000000000 (by omega) σ
  have b4 := fun σ => bt p.v 0 1000000000000 (by omega) σ
  have b5 := fun σ => bt p.t 1 100 (by omega) σ
  unfold Pt.D at i4
  unfold f_makes_a_pot g_makes_a_pot Pt.D
  generalize p.l = l at *
  generalize p.r = r at *
  generalize p.u = u at *
  generalize p.v = v at *
  generalize p.t = t at *
  simp [h1, h2, i4, ne, b3, b4, b5]
noncomputable abbrev ckB : Ev -> M Fl := (sIf (bOr (eT (zap oGt (zar 1) (eC (.int 2)))) (bNot (eT (eFn 1 f_makes_a_pot [] (zah (zar 2) zai))))) sBad sNil)
theorem ck_loop (n : Nat) (P : Nat -> Pt) (hn : n <= 3) (hP : ∀ i, i < n -> (P i).Ok) (σ : Sto) : ∀ (k i : Nat) (f : Nat) (x1 x2 : Option D), i + k = n -> f = 1001 - i -> ∃ y1 y2,
    loopN (nxE (zcq n P)) (tgT 2 (tgCons (tgN 1) (tgCons (tgN 2) tgNil))) ckB f i [some (zcq n P), x1, x2] σ = .ok (.nx [some (zcq n P), y1, y2]) σ := by
  intro k
  induction k with
  | zero =>
    intro i f x1 x2 hik hf
    obtain rfl : i = n := by omega
    obtain ⟨f', rfl⟩ : ∃ f', f = f' + 1 := ⟨f - 1, by omega⟩
    exact ⟨x1, x2, loopN_end (nxE_end i P _)⟩
  | succ k ih =>
    intro i f x1 x2 hik hf
    have hi : i < n := by omega
    obtain ⟨f', rfl⟩ : ∃ f', f = f' + 1 := ⟨f - 1, by omega⟩
    obtain ⟨z1, z2, e2⟩ := ih (i + 1) f' (some (.int i)) (some (P i).D) (by omega) (by omega)
    refine ⟨z1, z2, ?_⟩
    have mk := makes_ap (P i) (hP i hi) σ
    have b : decide ((2 : Int) < (i : Int)) = false := by simp; omega
    have e : ckB [some (zcq n P), some (.int i), some (P i).D] σ = .ok (.nx [some (zcq n P), some (.int i), some (P i).D]) σ := by
      unfold ckB
      generalize (P i).D = PD at *
      generalize zcq n P = PL at *
      simp [mk, b]
    rw [loopN_step (nxE_at P hi _) (ρ1 := [some (zcq n P), some (.int i), some (P i).D]) (nr rfl), e, zak, loopK_nx, e2]
theorem frzListL {xs : List D} (h : clL xs = true) (σ : Sto) : frzO σ (oList [.lst xs] σ) = .ok (.lst xs) σ := by
  have e : oList [.lst xs] σ = .ok (.ref σ.length) (σ ++ [.lst xs]) := nr rfl
  rw [e]
  have := frzO_lst (σ := σ) (j := []) (j' := []) h
  simpa using this
theorem checked_ap (n : Nat) (P : Nat -> Pt) (hn : n <= 3) (hP : ∀ i, i < n -> (P i).Ok) (σ : Sto) : f_checked_pots [zcq n P] σ = .ok (zcq n P) σ := by
  obtain ⟨y1, y2, e⟩ := ck_loop n P hn hP σ n 0 1001 none none (by omega) (by omega)
  have ek : enumK (zcq n P) σ = .ok (nxE (zcq n P)) σ := enumK_lst ..
  have fk : ∀ (tg : D -> Ev -> Option Ev) (body : Ev -> M Fl) (ρ : Ev) (nx : NX), forNK tg body ρ nx = loopN nx tg body 1001 0 ρ := fun _ _ _ _ => rfl
  have fl : frzO σ (oList [zcq n P] σ) = .ok (zcq n P) σ := frzListL (potL_cl n P) σ
  have hc : cl (zcq n P) = true := by unfold zcq; rw [cl_lst]; exact potL_cl n P
  unfold ckB at e
  unfold f_checked_pots g_checked_pots
  generalize zcq n P = PL at *
  simp [ek, fk, e, fl, hc, -sIf_ap]
def B0 : Bs := ⟨0, fun _ => .held, fun _ => [], []⟩
theorem lc_new {src : Ev -> M Src} {ix : List Nat} {fe : Ev -> M D} {ds : List D} {ρ : Ev} {σ : Sto} (y : D -> D) (hs : src ρ σ = .ok (.seq ds) σ) (hl : ds.length <= 1000)
    (step : ∀ d ∈ ds, ∀ j, fe (some d :: (ix.map fun i => (ρ[i]?).getD none)) (σ ++ j) = .ok (y d) (σ ++ j)) :
    eLC src ix (tgN 0) bTrue fe ρ σ = .ok (.ref σ.length) (σ ++ [.lst (ds.map y)]) := by
  show bnd (src ρ) (lcK (tgN 0) bTrue fe (blkEv ix ρ)) σ = _
  rw [bnd_ap, hs, zak]
  show bnd (zby (.seq ds) σ.length (tgN 0) bTrue fe 1001 0 (none :: (ix.map fun i => (ρ[i]?).getD none))) _ (σ ++ [.lst []]) = _
  rw [bnd_ap, lc_go y (fun _ => true) (fun d hd j => ⟨rfl, fun _ => step d hd j⟩) hl 1001 0 none [] (by omega) (by omega) (by simp), zak]
  rw [List.drop_zero, show List.filter (fun _ => true) ds = ds from List.filter_eq_self.mpr fun _ _ => rfl]
  rfl
theorem put0 (ρ : Ev) (cs : List Nat) (f : Str) (d : D) (c : Nat) (fs : List (Str × D)) (r : Sto) (hc : cs.contains c = true) (hl : fs.length < 1000) : putK2 ρ cs f d (.ref 0) (.ins c fs :: r) = .ok (.nx ρ) (.ins c (putD f d fs) :: r) := by
  unfold putK2 oPut
  simp [hc, hl, List.contains_eq_mem] at *
  simp [hc, hl]
theorem held_lc (n : Nat) (P : Nat -> Pt) (hn : n <= 3) (y : D) : eLC (srcS (eUn (oFld [8] "pots") (zar 0))) [] (tgN 0) bTrue (eFrz (eMake 5 2 f_Claim___init__ (zah (eFn 1 f_whole_of [] (zah (zar 0) zai)) zai))) [some (.ref 0), some y] [.ins 8 [("pots", zcq n P), ("day", .int 0)]]
    = .ok (.ref 1) [.ins 8 [("pots", zcq n P), ("day", .int 0)], .lst ((List.range n).map fun i => Cl.D (P i) .held)] := by
  have fl : oFld [8] "pots" (.ref 0) [.ins 8 [("pots", zcq n P), ("day", .int 0)]] = .ok (zcq n P) [.ins 8 [("pots", zcq n P), ("day", .int 0)]] := zce (c := 8) rfl rfl rfl
  have := lc_new (ix := []) (ρ := [some (.ref 0), some y]) (σ := [.ins 8 [("pots", zcq n P), ("day", .int 0)]]) (src := srcS (eUn (oFld [8] "pots") (zar 0))) (fe := eFrz (eMake 5 2 f_Claim___init__ (zah (eFn 1 f_whole_of [] (zah (zar 0) zai)) zai))) (ds := (List.range n).map fun i => (P i).D)
    (fun d => match d with | .tup [_, _, .int u, .int v, _] => .obj 5 ["whole"] [.int (u + v)] | _ => .non) (by rw [srcS_ap, eUn_ap, eVar_0, zak, fl, zak]; rfl) (by simp; omega) (fun d hd j => by
      obtain ⟨i, _, rfl⟩ := List.mem_map.mp hd
      have w := fun σ => whole_ap (P i) σ
      have mk := fun σ => make_held (P i).w σ
      show _ = Out.ok (D.obj 5 ["whole"] [.int (P i).w]) _
      generalize ([Ob.ins 8 [("pots", zcq n P), ("day", D.int 0)]] ++ j : Sto) = σ
      generalize (P i).D = PD at *
      generalize (P i).w = W at *
      generalize D.obj 5 ["whole"] [.int W] = O at *
      simp [w, mk, -makeK_1])
  rw [this, List.map_map]
  rfl
theorem init_ap (n : Nat) (P : Nat -> Pt) (h1 : 1 <= n) (h3 : n <= 3) (hP : ∀ i, i < n -> (P i).Ok) : f_Book___init__ [.ref 0, zcq n P] [.ins 8 []] = .ok .non (bkS n P B0) := by
  have ck := fun σ => checked_ap n P h3 hP σ
  have hl := held_lc n P h3 (zcq n P)
  have p1 : ∀ ρ r, putK2 ρ [8] "pots" (zcq n P) (.ref 0) (.ins 8 [] :: r) = .ok (.nx ρ) (.ins 8 [("pots", zcq n P)] :: r) := fun ρ r => put0 ρ _ _ _ 8 [] r rfl (by decide)
  have p2 : ∀ ρ r, putK2 ρ [6, 8] "day" (.int 0) (.ref 0) (.ins 8 [("pots", zcq n P)] :: r) = .ok (.nx ρ) (.ins 8 [("pots", zcq n P), ("day", .int 0)] :: r) := fun ρ r => put0 ρ _ _ _ 8 _ r rfl (by simp)
  have p3 : ∀ ρ r, putK2 ρ [8] "claims" (.ref 1) (.ref 0) (.ins 8 [("pots", zcq n P), ("day", .int 0)] :: r) = .ok (.nx ρ) (.ins 8 [("pots", zcq n P), ("day", .int 0), ("claims", .ref 1)] :: r) := fun ρ r => put0 ρ _ _ _ 8 _ r rfl (by simp)
  have p4 : ∀ ρ r, putK2 ρ [8] "shown" (.ref 2) (.ref 0) (.ins 8 [("pots", zcq n P), ("day", .int 0), ("claims", .ref 1)] :: r) = .ok (.nx ρ) (.ins 8 [("pots", zcq n P), ("day", .int 0), ("claims", .ref 1), ("shown", .ref 2)] :: r) := fun ρ r => put0 ρ _ _ _ 8 _ r rfl (by simp)
  have sh : ∀ y c, eLC (srcS (eUn (oFld [8] "pots") (zar 0))) [] (tgN 0) bTrue eDnew [some (.ref 0), some y] [.ins 8 [("pots", zcq n P), ("day", .int 0), ("claims", .ref 1)], c]
      = .ok (.ref 2) (.ins 8 [("pots", zcq n P), ("day", .int 0), ("claims", .ref 1)] :: c :: .lst ((List.range n).map fun i => .ref (3 + i)) :: (((List.range n).map fun i => .dic []) ++ [])) := by
    intro y c
    have hc : n = 1 \/ n = 2 \/ n = 3 := by omega
    rcases hc with rfl | rfl | rfl <;> rfl
  unfold f_Book___init__ g_Book___init__
  have eB : bkS n P B0 = .ins 8 [("pots", zcq n P), ("day", .int 0), ("claims", .ref 1), ("shown", .ref 2)] :: .lst ((List.range n).map fun i => Cl.D (P i) .held) :: .lst ((List.range n).map fun i => .ref (3 + i)) :: (((List.range n).map fun i => .dic []) ++ []) := rfl
  rw [eB]
  generalize Ob.lst ((List.range n).map fun i => Cl.D (P i) .held) = c at *
  generalize ((List.range n).map fun i => D.ref (3 + i)) = rs at *
  generalize (((List.range n).map fun i => Ob.dic []) ++ []) = ds at *
  generalize zcq n P = PL at *
  simp [ck, p1, p2, p3, p4, hl, sh]
@[simp] theorem sl2K_scr (xs : List Int) (lo hi : Option Int) (σ : Sto) : sl2K (.scr xs) lo hi σ = .ok (.lst (cutD (xs.map D.int) lo hi)) σ := nr rfl
theorem cut_len (ns : List Int) : ∃ L : List Int, cutD (ns.map D.int) (some 4) (some 44) = L.map D.int /\ L.length <= 40 := by
  refine ⟨(ns.drop (HT.sIx ns.length 0 (some 4))).take (HT.sIx ns.length ns.length (some 44) - HT.sIx ns.length 0 (some 4)), ?_, ?_⟩
  · unfold cutD; rw [List.length_map, List.map_take, List.map_drop]
  · simp [HT.sIx]; omega
def tz : List Int -> Int -> Int
  | [], m => m
  | c :: cs, m => tz cs (if c = 0 then m + 1 else 0)
theorem tz_nn : ∀ (L : List Int) (m : Int), 0 <= m -> 0 <= tz L m
  | [], m, h => h
  | c :: cs, m, h => tz_nn cs _ (by split <;> omega)
theorem tz_app : ∀ (L M : List Int) (m : Int), tz (L ++ M) m = tz M (tz L m)
  | [], M, m => rfl
  | c :: cs, M, m => tz_app cs M _
theorem tz_rep : ∀ (k : Nat) (m : Int), tz (List.replicate k 0) m = m + k
  | 0, m => by simp [tz]
  | k + 1, m => by
    rw [List.replicate_succ]
    simp only [tz, if_pos]
    rw [tz_rep k]
    omega
theorem tr_cl (n : Nat) (A : Nat -> Int × Int × Int) : clL ((List.range n).map fun i => tr (A i)) = true := clL_map fun _ => by simp [tr]
noncomputable abbrev lwB : Ev -> M Fl := (zct (sExp (eFn 3 f__law_try [] (zah (zar 2) (zah (zar 1) (zah (zar 4) zai)))))
  (zct (sIf (bNot (eT (eFn 3 f__law_kept [] (zah (zar 2) (zah (zar 1) (zah (zar 3) zai)))))) (zcs (eC (.bl false))) sNil)
  (sSet 3 (eFrz (eLC (srcR (zaq oLen (zah (zar 1) zai))) [2] (tgN 0) bTrue (eMth [(8, f_Book_due_of)] 2 "due_of" (zar 1) (zah (zar 0) zai)))))))
theorem tri_lc (n : Nat) (P : Nat -> Pt) (B : Bs) (hn : n <= 3) (hC : ∀ i, i < n -> (B.C i).Ok (P i)) (ρ : Ev) (h1 : zar 1 ρ (bkS n P B) = .ok (zcq n P) (bkS n P B)) (h2 : ρ[2]? = some (some (.ref 0))) :
    eFrz (eLC (srcR (zaq oLen (zah (zar 1) zai))) [2] (tgN 0) bTrue (eMth [(8, f_Book_due_of)] 2 "due_of" (zar 1) (zah (zar 0) zai))) ρ (bkS n P B) = .ok (ahL n (B.tri P)) (bkS n P B) := by
  have rk : ∀ σ, rngK (.int (n : Int)) σ = .ok (.seq (zcr n)) σ := fun σ => by have := rngK_ap (σ := σ) (j := (n : Int)) (by omega) (by omega); simpa using this
  have lp := len_pots n P
  have := lc_map (ix := [2]) (ρ := ρ) (σ := bkS n P B) (src := srcR (zaq oLen (zah (zar 1) zai))) (fe := eMth [(8, f_Book_due_of)] 2 "due_of" (zar 1) (zah (zar 0) zai)) (ds := zcr n) (fun d => match d with | .int i => tr (B.tri P i.toNat) | _ => .non)
    (by simp [h1, lp, rk]) (by simp [zcr]; omega) (fun d hd j => by
      unfold zcr at hd
      obtain ⟨i, hi, rfl⟩ := List.mem_map.mp hd
      have hi : i < n := List.mem_range.mp hi
      rw [bk_app]
      have du := due_ap n P { B with J := B.J ++ j } hi (hC i hi)
      have md := fun fs => mdue n P { B with J := B.J ++ j } fs
      rw [show Bs.du { B with J := B.J ++ j } P i = tr (B.tri P i) from rfl] at du
      generalize bkS n P { B with J := B.J ++ j } = σ at *
      simp only [Int.toNat_natCast]
      generalize tr (B.tri P i) = T at *
      simp [h2, md, du]) (fun d hd => by
      unfold zcr at hd
      obtain ⟨i, hi, rfl⟩ := List.mem_map.mp hd
      simp [tr])
  rw [this]
  unfold ahL zcr
  rw [List.map_map]
  rfl
theorem lw_loop (n : Nat) (P : Nat -> Pt) (h1 : 1 <= n) (h3 : n <= 3) (hP : ∀ i, i < n -> (P i).Ok) (x0 : Option D) : ∀ (L : List Int) (B : Bs) (q : Nat) (m : Int) (A : Nat -> Int × Int × Int) (x4 x5 : Option D), Iv n P q m B -> q + L.length < 1000 -> (∀ i, i < n -> (A i).1 <= duA (P i) B.y (B.S i) (B.C i) /\ (A i).2.1 <= duB (P i) B.y (B.S i) (B.C i)) ->
    ∃ B' q' A' y4, Iv n P q' (tz L m) B' /\ loop (tgN 4) lwB (L.map D.int) [x0, some (zcq n P), some (.ref 0), some (ahL n A), x4, x5] (bkS n P B) = .ok (.nx [x0, some (zcq n P), some (.ref 0), some (ahL n A'), y4, x5]) (bkS n P B')
  | [], B, q, m, A, x4, x5, hI, _, _ => ⟨B, q, A, x4, hI, by simp⟩
  | c :: L, B, q, m, A, x4, x5, hI, hq, hA => by
    obtain ⟨d, B1, t1, st⟩ := try_ap n P B c h1 h3 hP hI.ok (fun i hi => by have := hI.sh i hi; simp only [List.length_cons] at hq; omega)
    obtain ⟨hI1, mo⟩ := stp_iv hP hI st
    have kp := kept_ap n P B1 A h3 hP hI1.ok (fun i hi => ⟨Int.le_trans (hA i hi).1 (mo i hi).1, Int.le_trans (hA i hi).2 (mo i hi).2⟩)
    obtain ⟨B2, q2, A2, y4, hI2, e⟩ := lw_loop n P h1 h3 hP x0 L B1 (q + 1) _ (B1.tri P) (some (.int c)) x5 hI1 (by simp only [List.length_cons] at hq; omega) (fun i hi => ⟨Int.le_refl _, Int.le_refl _⟩)
    refine ⟨B2, q2, A2, y4, hI2, ?_⟩
    have tl := tri_lc n P B1 h3 hI1.ok [x0, some (zcq n P), some (.ref 0), some (ahL n A), some (.int c), x5] (by simp) rfl
    rw [List.map_cons, loop_tgN]
    simp only [List.set_cons_succ, List.set_cons_zero]
    have b : lwB [x0, some (zcq n P), some (.ref 0), some (ahL n A), some (.int c), x5] (bkS n P B) = .ok (.nx [x0, some (zcq n P), some (.ref 0), some (ahL n (B1.tri P)), some (.int c), x5]) (bkS n P B1) := by
      unfold lwB
      generalize bkS n P B = σ at *
      generalize bkS n P B1 = σ1 at *
      generalize ahL n (B1.tri P) = A1 at *
      generalize ahL n A = A0 at *
      generalize zcq n P = PL at *
      simp [t1, kp, tl, -eFrz_ap]
    rw [b, zak, loopK_nx, e]
noncomputable abbrev enB : Ev -> M Fl := (sIf (bAnd (eT (zap oNe (zap oIx (eMth [(8, f_Book_told)] 2 "told" (zar 2) (zah (zar 5) zai)) (eC (.int 0))) (eC (.str "held")))) (eT (zap oNe (zap oIx (eMth [(8, f_Book_due_of)] 2 "due_of" (zar 2) (zah (zar 5) zai)) (eC (.int 2))) (eC (.int 0))))) (zcs (eC (.bl false))) sNil)
theorem oNe_str' (i j : Str) (σ : Sto) : oNe (.str i) (.str j) σ = .ok (.bl (!(i == j))) σ := oNe_of (by simp [eqD, kd, eqK, eqV])
theorem en_loop (n : Nat) (P : Nat -> Pt) (B : Bs) (hC : ∀ i, i < n -> (B.C i).Ok (P i)) (hH : ∀ i, i < n -> (B.C i).ish = false -> duH (P i) B.y (B.S i) (B.C i) = 0) (x0 x1 x3 x4 : Option D) : ∀ (k i : Nat) (x5 : Option D), i + k = n -> ∃ y5,
    loop (tgN 5) enB ((List.range' i k).map fun (k : Nat) => D.int k) [x0, x1, some (.ref 0), x3, x4, x5] (bkS n P B) = .ok (.nx [x0, x1, some (.ref 0), x3, x4, y5]) (bkS n P B) := by
  intro k
  induction k with
  | zero => intro i x5 _; exact ⟨x5, by simp⟩
  | succ k ih =>
    intro i x5 hik
    have hi : i < n := by omega
    obtain ⟨y5, e2⟩ := ih (i + 1) (some (.int i)) (by omega)
    refine ⟨y5, ?_⟩
    have du := due_ap n P B hi (hC i hi)
    have td := told_ap n P B hi
    have md := fun fs => mdue n P B fs
    have mt := fun fs => mtold n P B fs
    have hh := hH i hi
    have e : enB [x0, x1, some (.ref 0), x3, x4, some (.int i)] (bkS n P B) = .ok (.nx [x0, x1, some (.ref 0), x3, x4, some (.int i)]) (bkS n P B) := by
      unfold enB
      unfold Bs.du du3 at du
      generalize bkS n P B = σ at *
      generalize duA (P i) B.y (B.S i) (B.C i) = a at *
      generalize duB (P i) B.y (B.S i) (B.C i) = b at *
      generalize duH (P i) B.y (B.S i) (B.C i) = c at *
      cases hcc : B.C i with
      | held =>
        rw [hcc, show Cl.tl .held = .tup [.str "held"] from rfl] at td
        simp [mt, td, oNe_str']
      | laid s k a b ts d =>
        have hz := hh (by rw [hcc]; rfl)
        subst hz
        rw [hcc, show Cl.tl (.laid s k a b ts d) = .tup [.str "laid", .int s, stD k a b ts, .int d] from rfl] at td
        have w1 : (("laid" : Str) == "held") = false := by decide
        generalize stD k a b ts = S at *
        simp [mt, td, oNe_str', w1, md, du]
      | taken s =>
        have hz := hh (by rw [hcc]; rfl)
        subst hz
        rw [hcc, show Cl.tl (.taken s) = .tup [.str "taken", .int s] from rfl] at td
        have w1 : (("taken" : Str) == "held") = false := by decide
        simp [mt, td, oNe_str', w1, md, du]
    rw [List.range'_succ, List.map_cons, loop_tgN]
    simp only [List.set_cons_succ, List.set_cons_zero]
    rw [e, zak, loopK_nx, e2]
theorem law_true (ns : List Int) (hns : ns.length <= 63) : ∃ σ, f_law [.scr ns] [] = .ok (.bl true) σ := by
  obtain ⟨n, hn⟩ : ∃ n : Nat, (n : Int) = 1 + cellV ns 0 % 3 := ⟨(1 + cellV ns 0 % 3).toNat, by omega⟩
  have h1 : 1 <= n := by omega
  have h3 : n <= 3 := by omega
  have hP : ∀ i, i < n -> (potP ns i).Ok := fun i _ => mkP_ok _
  have ps := pots_ap ns n hn []
  generalize potP ns = P at *
  have ini := init_ap n P h1 h3 hP
  obtain ⟨L, eL, hL⟩ := cut_len ns
  have I0 : Iv n P 0 0 B0 := ⟨fun i _ => trivial, fun i _ s k a b ts d e => (by cases e), by decide, by decide, fun i _ => by simp [B0]⟩
  obtain ⟨B', q', A', y4, I', e⟩ := lw_loop n P h1 h3 hP (some (.scr ns)) (L ++ List.replicate 40 0) B0 0 0 (fun _ => (0, 0, 0)) none none I0 (by simp; omega) (fun i _ => ⟨Int.le_refl _, Int.le_refl _⟩)
  have hm : 40 <= tz (L ++ List.replicate 40 0) 0 := by
    rw [tz_app, tz_rep]
    have := tz_nn L 0 (by decide)
    omega
  obtain ⟨y5, e5⟩ := en_loop n P B' I'.ok (fun i hi hh => end_H hP I' hm hi hh) (some (.scr ns)) (some (zcq n P)) (some (ahL n A')) y4 n 0 none (by omega)
  rw [<- rangeD_eq] at e5
  have lp := len_pots n P
  have rk : ∀ σ, rngK (.int (n : Int)) σ = .ok (.seq (zcr n)) σ := fun σ => by have := rngK_ap (σ := σ) (j := (n : Int)) (by omega) (by omega); simpa using this
  have lc0 : eFrz (eLC (srcS (zar 1)) [] (tgN 0) bTrue (eTup (zah (eC (.int 0)) (zah (eC (.int 0)) (zah (eC (.int 0)) zai))))) [some (.scr ns), some (zcq n P), some (.ref 0), none, none, none] (bkS n P B0) = .ok (ahL n (fun _ => (0, 0, 0))) (bkS n P B0) := by
    have := lc_map (ix := []) (ρ := [some (.scr ns), some (zcq n P), some (.ref 0), none, none, none]) (σ := bkS n P B0) (src := srcS (zar 1)) (fe := eTup (zah (eC (.int 0)) (zah (eC (.int 0)) (zah (eC (.int 0)) zai)))) (ds := (List.range n).map fun i => (P i).D) (fun _ => .tup [.int 0, .int 0, .int 0]) (by simp; rfl) (by simp; omega) (fun d _ j => by simp) (fun d _ => by simp)
    rw [this, List.map_map]
    rfl
  have rp : ∀ σ, oRep (.lst [.int 0]) (.int 40) σ = .ok (.lst ((List.replicate 40 (0 : Int)).map D.int)) σ := fun σ => rfl
  have ad : ∀ σ, oAdd (.lst (L.map D.int)) (.lst ((List.replicate 40 (0 : Int)).map D.int)) σ = .ok (.lst ((L ++ List.replicate 40 0).map D.int)) σ := fun σ => by
    rw [oAdd_lst (by simp [cap]; omega), List.map_append]
  refine ⟨bkS n P B', ?_⟩
  have mkb : noneO 0 (f_Book___init__ [.ref 0, zcq n P] [.ins 8 []]) = .ok (.ref 0) (bkS n P B0) := by rw [ini]; rfl
  unfold lwB at e
  unfold enB at e5
  unfold f_law g_law
  generalize bkS n P B' = σ' at *
  generalize bkS n P B0 = σ0 at *
  generalize hR1 : (L ++ List.replicate 40 (0 : Int)).map D.int = LL at *
  generalize hR2 : (List.replicate 40 (0 : Int)).map D.int = L40 at *
  generalize L.map D.int = L0 at *
  generalize zcr n = R at *
  generalize ahL n A' = AA at *
  generalize ahL n (fun _ => (0, 0, 0)) = A0 at *
  generalize zcq n P = PL at *
  simp [ps, mkb, lc0, eL, rp, ad, e, lp, rk, e5, -eFrz_ap]
end K16
open PySem PySem.W PyProof.Rows
set_option maxRecDepth 100000 in
set_option maxHeartbeats 0 in
theorem PySem.Challenge.cw_sidebook_k16_whole_coin_is_kept_holds : PySem.Challenge.rw_sidebook_k16_whole_coin_is_kept.Holds := by
  w_on; o_law; k_head; (case hw => w_witness2)
  k_fill
  refine L4.walkL (l := PySem.Challenge.rw_sidebook_k16_whole_coin_is_kept) (k := 12) (x := "_law_script") (fn := K16.f_law) rfl rfl ⟨rfl, by decide, by decide⟩ (fun w h Y => PySem.W.kIn_of Y) ?F K16.law_true
  case F =>
    intro w mg h KX G
    have h__law_cell_at : L4.zaa (L2.KOf KX) mg "_law_cell_at" (K16.top 55) ["_law_script", "_law_k"] := by
      dsimp only [L2.KOf]
      refine' L4.mkF KX G K16.bd__law_cell_at ?a ?l ?c ?k
      (case a => k_is); (case l => k_is); (case c => k_is); (case k => k_is)
    have h__law_mixed : L4.zaa (L2.KOf KX) mg "_law_mixed" (K16.top 56) ["_law_cell", "_law_k"] := by
      dsimp only [L2.KOf]
      refine' L4.mkF KX G K16.bd__law_mixed ?a ?l ?c ?k
      (case a => k_is); (case l => k_is); (case c => k_is); (case k => k_is)
    have h__law_pots : L4.zaa (L2.KOf KX) mg "_law_pots" (K16.top 58) ["_law_script"] := by
      dsimp only [L2.KOf]
      refine' L4.mkF KX G K16.bd__law_pots ?a ?l ?c ?k
      (case a => k_is); (case l => k_is); (case c => k_is); (case k => k_is)
    have h_is_whole : L4.zaa (L2.KOf KX) mg "is_whole" (K16.top 8) ["thing"] := by
      dsimp only [L2.KOf]
      refine' L4.mkF KX G K16.bd_is_whole ?a ?l ?c ?k
      (case a => k_is); (case l => k_is); (case c => k_is); (case k => k_is)
    have h_is_between : L4.zaa (L2.KOf KX) mg "is_between" (K16.top 9) ["thing", "least", "most"] := by
      dsimp only [L2.KOf]
      refine' L4.mkF KX G K16.bd_is_between ?a ?l ?c ?k
      (case a => k_is); (case l => k_is); (case c => k_is); (case k => k_is)
    have h_is_hand : L4.zaa (L2.KOf KX) mg "is_hand" (K16.top 11) ["thing"] := by
      dsimp only [L2.KOf]
      refine' L4.mkF KX G K16.bd_is_hand ?a ?l ?c ?k
      (case a => k_is); (case l => k_is); (case c => k_is); (case k => k_is)
    have h_makes_a_pot : L4.zaa (L2.KOf KX) mg "makes_a_pot" (K16.top 48) ["thing"] := by
      dsimp only [L2.KOf]
      refine' L4.mkF KX G K16.bd_makes_a_pot ?a ?l ?c ?k
      (case a => k_is); (case l => k_is); (case c => k_is); (case k => k_is)
    have h_checked_pots : L4.zaa (L2.KOf KX) mg "checked_pots" (K16.top 49) ["pots"] := by
      dsimp only [L2.KOf]
      refine' L4.mkF KX G K16.bd_checked_pots ?a ?l ?c ?k
      (case a => k_is); (case l => k_is); (case c => k_is); (case k => k_is)
    have h_whole_of : L4.zaa (L2.KOf KX) mg "whole_of" (K16.top 50) ["made"] := by
      dsimp only [L2.KOf]
      refine' L4.mkF KX G K16.bd_whole_of ?a ?l ?c ?k
      (case a => k_is); (case l => k_is); (case c => k_is); (case k => k_is)
    have h__law_small_stand : L4.zaa (L2.KOf KX) mg "_law_small_stand" (K16.top 57) ["_law_cell", "_law_whole"] := by
      dsimp only [L2.KOf]
      refine' L4.mkF KX G K16.bd__law_small_stand ?a ?l ?c ?k
      (case a => k_is); (case l => k_is); (case c => k_is); (case k => k_is)
    have h_is_word : L4.zaa (L2.KOf KX) mg "is_word" (K16.top 12) ["thing"] := by
      dsimp only [L2.KOf]
      refine' L4.mkF KX G K16.bd_is_word ?a ?l ?c ?k
      (case a => k_is); (case l => k_is); (case c => k_is); (case k => k_is)
    have h_is_side : L4.zaa (L2.KOf KX) mg "is_side" (K16.top 10) ["thing"] := by
      dsimp only [L2.KOf]
      refine' L4.mkF KX G K16.bd_is_side ?a ?l ?c ?k
      (case a => k_is); (case l => k_is); (case c => k_is); (case k => k_is)
    have h_check_side : L4.zaa (L2.KOf KX) mg "check_side" (K16.top 52) ["side"] := by
      dsimp only [L2.KOf]
      refine' L4.mkF KX G K16.bd_check_side ?a ?l ?c ?k
      (case a => k_is); (case l => k_is); (case c => k_is); (case k => k_is)
    have h_deals : L4.zaa (L2.KOf KX) mg "deals" (K16.top 32) ["one"] := by
      dsimp only [L2.KOf]
      refine' L4.mkF KX G K16.bd_deals ?a ?l ?c ?k
      (case a => k_is); (case l => k_is); (case c => k_is); (case k => k_is)
    have h_is_day : L4.zaa (L2.KOf KX) mg "is_day" (K16.top 13) ["thing"] := by
      dsimp only [L2.KOf]
      refine' L4.mkF KX G K16.bd_is_day ?a ?l ?c ?k
      (case a => k_is); (case l => k_is); (case c => k_is); (case k => k_is)
    have h_is_amount : L4.zaa (L2.KOf KX) mg "is_amount" (K16.top 15) ["thing"] := by
      dsimp only [L2.KOf]
      refine' L4.mkF KX G K16.bd_is_amount ?a ?l ?c ?k
      (case a => k_is); (case l => k_is); (case c => k_is); (case k => k_is)
    have h_is_tie : L4.zaa (L2.KOf KX) mg "is_tie" (K16.top 26) ["thing"] := by
      dsimp only [L2.KOf]
      refine' L4.mkF KX G K16.bd_is_tie ?a ?l ?c ?k
      (case a => k_is); (case l => k_is); (case c => k_is); (case k => k_is)
    have h_are_ties : L4.zaa (L2.KOf KX) mg "are_ties" (K16.top 28) ["thing"] := by
      dsimp only [L2.KOf]
      refine' L4.mkF KX G K16.bd_are_ties ?a ?l ?c ?k
      (case a => k_is); (case l => k_is); (case c => k_is); (case k => k_is)
    have h_are_shares : L4.zaa (L2.KOf KX) mg "are_shares" (K16.top 27) ["thing"] := by
      dsimp only [L2.KOf]
      refine' L4.mkF KX G K16.bd_are_shares ?a ?l ?c ?k
      (case a => k_is); (case l => k_is); (case c => k_is); (case k => k_is)
    have h_is_number : L4.zaa (L2.KOf KX) mg "is_number" (K16.top 14) ["thing"] := by
      dsimp only [L2.KOf]
      refine' L4.mkF KX G K16.bd_is_number ?a ?l ?c ?k
      (case a => k_is); (case l => k_is); (case c => k_is); (case k => k_is)
    have h_is_stand : L4.zaa (L2.KOf KX) mg "is_stand" (K16.top 29) ["thing"] := by
      dsimp only [L2.KOf]
      refine' L4.mkF KX G K16.bd_is_stand ?a ?l ?c ?k
      (case a => k_is); (case l => k_is); (case c => k_is); (case k => k_is)
    have h_is_stand_of : L4.zaa (L2.KOf KX) mg "is_stand_of" (K16.top 33) ["thing", "coin"] := by
      dsimp only [L2.KOf]
      refine' L4.mkF KX G K16.bd_is_stand_of ?a ?l ?c ?k
      (case a => k_is); (case l => k_is); (case c => k_is); (case k => k_is)
    have h_other_side : L4.zaa (L2.KOf KX) mg "other_side" (K16.top 17) ["side"] := by
      dsimp only [L2.KOf]
      refine' L4.mkF KX G K16.bd_other_side ?a ?l ?c ?k
      (case a => k_is); (case l => k_is); (case c => k_is); (case k => k_is)
    have h_is_pot : L4.zaa (L2.KOf KX) mg "is_pot" (K16.top 16) ["thing"] := by
      dsimp only [L2.KOf]
      refine' L4.mkF KX G K16.bd_is_pot ?a ?l ?c ?k
      (case a => k_is); (case l => k_is); (case c => k_is); (case k => k_is)
    have h_is_of_a_side : L4.zaa (L2.KOf KX) mg "is_of_a_side" (K16.top 37) ["thing"] := by
      dsimp only [L2.KOf]
      refine' L4.mkF KX G K16.bd_is_of_a_side ?a ?l ?c ?k
      (case a => k_is); (case l => k_is); (case c => k_is); (case k => k_is)
    have h_is_thing : L4.zaa (L2.KOf KX) mg "is_thing" (K16.top 38) ["thing"] := by
      dsimp only [L2.KOf]
      refine' L4.mkF KX G K16.bd_is_thing ?a ?l ?c ?k
      (case a => k_is); (case l => k_is); (case c => k_is); (case k => k_is)
    have h_is_agreed : L4.zaa (L2.KOf KX) mg "is_agreed" (K16.top 51) ["pot", "side", "stand", "agreement"] := by
      dsimp only [L2.KOf]
      refine' L4.mkF KX G K16.bd_is_agreed ?a ?l ?c ?k
      (case a => k_is); (case l => k_is); (case c => k_is); (case k => k_is)
    have h_stand : L4.HasFnD (L2.KOf KX) mg "stand" (K16.top 30) ["number", "shares", "ties"] [Value.none] := by
      dsimp only [L2.KOf]
      refine' L4.mkFD KX G K16.bd_stand ?a ?l ?c ?k ?d
      (case a => k_is); (case l => k_is); (case c => k_is); (case k => k_is); (case d => k_is)
    have h_first : L4.zaa (L2.KOf KX) mg "first" (K16.top 31) ["left", "right"] := by
      dsimp only [L2.KOf]
      refine' L4.mkF KX G K16.bd_first ?a ?l ?c ?k
      (case a => k_is); (case l => k_is); (case c => k_is); (case k => k_is)
    have h__law_try : L4.zaa (L2.KOf KX) mg "_law_try" (K16.top 59) ["_law_book", "_law_pots_here", "_law_cell"] := by
      dsimp only [L2.KOf]
      refine' L4.mkF KX G K16.bd__law_try ?a ?l ?c ?k
      (case a => k_is); (case l => k_is); (case c => k_is); (case k => k_is)
    have h_shown_in_time : L4.zaa (L2.KOf KX) mg "shown_in_time" (K16.top 35) ["tie", "shown"] := by
      dsimp only [L2.KOf]
      refine' L4.mkF KX G K16.bd_shown_in_time ?a ?l ?c ?k
      (case a => k_is); (case l => k_is); (case c => k_is); (case k => k_is)
    have h_side_due : L4.zaa (L2.KOf KX) mg "side_due" (K16.top 40) ["tie", "day", "shown"] := by
      dsimp only [L2.KOf]
      refine' L4.mkF KX G K16.bd_side_due ?a ?l ?c ?k
      (case a => k_is); (case l => k_is); (case c => k_is); (case k => k_is)
    have h_with_more : L4.zaa (L2.KOf KX) mg "with_more" (K16.top 34) ["shares", "side", "amount"] := by
      dsimp only [L2.KOf]
      refine' L4.mkF KX G K16.bd_with_more ?a ?l ?c ?k
      (case a => k_is); (case l => k_is); (case c => k_is); (case k => k_is)
    have h__law_kept : L4.zaa (L2.KOf KX) mg "_law_kept" (K16.top 60) ["_law_book", "_law_pots_here", "_law_ahead"] := by
      dsimp only [L2.KOf]
      refine' L4.mkF KX G K16.bd__law_kept ?a ?l ?c ?k
      (case a => k_is); (case l => k_is); (case c => k_is); (case k => k_is)
    have h_law : L4.zaa (L2.KOf KX) mg "law" (K16.top 61) ["_law_script"] := by
      dsimp only [L2.KOf]
      refine' L4.mkF KX G K16.bd_law ?a ?l ?c ?k
      (case a => k_is); (case l => k_is); (case c => k_is); (case k => k_is)
    have n_all : mg "all" = none := by
      refine' PySem.W.mg_none_of KX G ?a
      (case a => k_is)
    have n_bool : mg "bool" = none := by
      refine' PySem.W.mg_none_of KX G ?a
      (case a => k_is)
    have n_enumerate : mg "enumerate" = none := by
      refine' PySem.W.mg_none_of KX G ?a
      (case a => k_is)
    have n_int : mg "int" = none := by
      refine' PySem.W.mg_none_of KX G ?a
      (case a => k_is)
    have n_isinstance : mg "isinstance" = none := by
      refine' PySem.W.mg_none_of KX G ?a
      (case a => k_is)
    have n_len : mg "len" = none := by
      refine' PySem.W.mg_none_of KX G ?a
      (case a => k_is)
    have n_list : mg "list" = none := by
      refine' PySem.W.mg_none_of KX G ?a
      (case a => k_is)
    have n_min : mg "min" = none := by
      refine' PySem.W.mg_none_of KX G ?a
      (case a => k_is)
    have n_range : mg "range" = none := by
      refine' PySem.W.mg_none_of KX G ?a
      (case a => k_is)
    have n_set : mg "set" = none := by
      refine' PySem.W.mg_none_of KX G ?a
      (case a => k_is)
    have n_str : mg "str" = none := by
      refine' PySem.W.mg_none_of KX G ?a
      (case a => k_is)
    have n_sum : mg "sum" = none := by
      refine' PySem.W.mg_none_of KX G ?a
      (case a => k_is)
    have n_tuple : mg "tuple" = none := by
      refine' PySem.W.mg_none_of KX G ?a
      (case a => k_is)
    have c_MOST_AMOUNT : ∃ t, mg "MOST_AMOUNT" = some (.int 1000000000000 t) := by
      refine' L4.mkI KX G ?a
      (case a => k_is)
    have c_MOST_COIN : ∃ t, mg "MOST_COIN" = some (.int 1000000000000 t) := by
      refine' L4.mkI KX G ?a
      (case a => k_is)
    have c_MOST_DAY : ∃ t, mg "MOST_DAY" = some (.int 1000000 t) := by
      refine' L4.mkI KX G ?a
      (case a => k_is)
    have c_MOST_HAND : ∃ t, mg "MOST_HAND" = some (.int 3 t) := by
      refine' L4.mkI KX G ?a
      (case a => k_is)
    have c_MOST_NUMBER : ∃ t, mg "MOST_NUMBER" = some (.int 1000000 t) := by
      refine' L4.mkI KX G ?a
      (case a => k_is)
    have c_MOST_POT : ∃ t, mg "MOST_POT" = some (.int 2 t) := by
      refine' L4.mkI KX G ?a
      (case a => k_is)
    have c_MOST_SHARE : ∃ t, mg "MOST_SHARE" = some (.int 2000000000000 t) := by
      refine' L4.mkI KX G ?a
      (case a => k_is)
    have c_MOST_TIES : ∃ t, mg "MOST_TIES" = some (.int 6 t) := by
      refine' L4.mkI KX G ?a
      (case a => k_is)
    have c_MOST_WAIT : ∃ t, mg "MOST_WAIT" = some (.int 100 t) := by
      refine' L4.mkI KX G ?a
      (case a => k_is)
    have c_MOST_WORD : ∃ t, mg "MOST_WORD" = some (.int 59 t) := by
      refine' L4.mkI KX G ?a
      (case a => k_is)
    refine' (have q0 : PySem.W.nsIn (L2.KOf KX) mainGlobals "BookError" = some (some (.ref ?C0)) := ?p0; ?_)
    (case p0 => dsimp only [L2.KOf]; first | k_is | k_exc | rfl)
    refine' (have q1 : PySem.W.excIn (L2.KOf KX) ?C0 L4.veB "ValueError.__new__" = true := ?p1; ?_)
    (case p1 => dsimp only [L2.KOf]; first | k_is | k_exc | rfl)
    refine' (have q2 : PySem.W.nsIn (L2.KOf KX) mainGlobals "NoStand" = some (some (.ref ?C1)) := ?p2; ?_)
    (case p2 => dsimp only [L2.KOf]; first | k_is | k_exc | rfl)
    refine' (have q3 : PySem.W.excIn (L2.KOf KX) ?C1 L4.veB "ValueError.__new__" = true := ?p3; ?_)
    (case p3 => dsimp only [L2.KOf]; first | k_is | k_exc | rfl)
    refine' (have q4 : PySem.W.nsIn (L2.KOf KX) mainGlobals "NoDeed" = some (some (.ref ?C2)) := ?p4; ?_)
    (case p4 => dsimp only [L2.KOf]; first | k_is | k_exc | rfl)
    refine' (have q5 : PySem.W.excIn (L2.KOf KX) ?C2 L4.veB "ValueError.__new__" = true := ?p5; ?_)
    (case p5 => dsimp only [L2.KOf]; first | k_is | k_exc | rfl)
    refine' (have q6 : PySem.W.exmOne (L2.KOf KX) (.ref ?C0) (.ref ?C2) = some false := ?p6; ?_)
    (case p6 => dsimp only [L2.KOf]; first | k_is | k_exc | rfl)
    refine' (have q7 : PySem.W.exmOne (L2.KOf KX) (.ref ?C2) (.ref ?C2) = some true := ?p7; ?_)
    (case p7 => dsimp only [L2.KOf]; first | k_is | k_exc | rfl)
    refine' (have q8 : PySem.W.exmOne (L2.KOf KX) (.ref ?C1) (.ref ?C2) = some false := ?p8; ?_)
    (case p8 => dsimp only [L2.KOf]; first | k_is | k_exc | rfl)
    refine' (have q9 : PySem.W.nsIn (L2.KOf KX) mainGlobals "Claim" = some (some (.ref ?C4)) := ?p9; ?_)
    (case p9 => dsimp only [L2.KOf]; first | k_is | k_exc | rfl)
    refine' (have q10 : PySem.W.nsIn (L2.KOf KX) mainGlobals "Held" = some (some (.ref ?C5)) := ?p10; ?_)
    (case p10 => dsimp only [L2.KOf]; first | k_is | k_exc | rfl)
    refine' (have q11 : PySem.W.nsIn (L2.KOf KX) mainGlobals "Laid" = some (some (.ref ?C6)) := ?p11; ?_)
    (case p11 => dsimp only [L2.KOf]; first | k_is | k_exc | rfl)
    refine' (have q12 : PySem.W.nsIn (L2.KOf KX) mainGlobals "Taken" = some (some (.ref ?C7)) := ?p12; ?_)
    (case p12 => dsimp only [L2.KOf]; first | k_is | k_exc | rfl)
    refine' (have q13 : PySem.W.nsIn (L2.KOf KX) mainGlobals "Book" = some (some (.ref ?C8)) := ?p13; ?_)
    (case p13 => dsimp only [L2.KOf]; first | k_is | k_exc | rfl)
    refine' (have q14 : PySem.W.findIn (L2.KOf KX) (.ref ?C4) "__init__" = some (some (.ref ?C9)) := ?p14; ?_)
    (case p14 => dsimp only [L2.KOf]; first | k_is | k_exc | rfl)
    refine' (have q15 : L4.HasM (L2.KOf KX) ?C4 "__init__" "Claim.__init__" (L4.zcb (K16.top 41) 0) ["self", "whole"] ?C9 := ?p15; ?_)
    (case p15 => dsimp only [L2.KOf]; refine' L4.mkM K16.bd_Claim___init__ ?l ?c ?k; (case l => k_is); (case c => k_is); (case k => k_is))
    refine' (have q16 : PySem.W.findIn (L2.KOf KX) (.ref ?C8) "__init__" = some (some (.ref ?C22)) := ?p16; ?_)
    (case p16 => dsimp only [L2.KOf]; first | k_is | k_exc | rfl)
    refine' (have q17 : L4.HasM (L2.KOf KX) ?C8 "__init__" "Book.__init__" (L4.zcb (K16.top 53) 0) ["self", "pots"] ?C22 := ?p17; ?_)
    (case p17 => dsimp only [L2.KOf]; refine' L4.mkM K16.bd_Book___init__ ?l ?c ?k; (case l => k_is); (case c => k_is); (case k => k_is))
    refine' (have q18 : PySem.W.findIn (L2.KOf KX) (.ref ?C8) "next_day" = some (some (.ref ?C25)) := ?p18; ?_)
    (case p18 => dsimp only [L2.KOf]; first | k_is | k_exc | rfl)
    refine' (have q19 : L4.HasM (L2.KOf KX) ?C8 "next_day" "Book.next_day" (L4.zcb (K16.top 53) 3) ["self"] ?C25 := ?p19; ?_)
    (case p19 => dsimp only [L2.KOf]; refine' L4.mkM K16.bd_Book_next_day ?l ?c ?k; (case l => k_is); (case c => k_is); (case k => k_is))
    refine' (have q20 : PySem.W.findIn (L2.KOf KX) (.ref ?C8) "check_pot" = some (some (.ref ?C23)) := ?p20; ?_)
    (case p20 => dsimp only [L2.KOf]; first | k_is | k_exc | rfl)
    refine' (have q21 : L4.HasM (L2.KOf KX) ?C8 "check_pot" "Book.check_pot" (L4.zcb (K16.top 53) 1) ["self", "pot"] ?C23 := ?p21; ?_)
    (case p21 => dsimp only [L2.KOf]; refine' L4.mkM K16.bd_Book_check_pot ?l ?c ?k; (case l => k_is); (case c => k_is); (case k => k_is))
    refine' (have q22 : PySem.W.findIn (L2.KOf KX) (.ref ?C8) "show" = some (some (.ref ?C26)) := ?p22; ?_)
    (case p22 => dsimp only [L2.KOf]; first | k_is | k_exc | rfl)
    refine' (have q23 : L4.HasM (L2.KOf KX) ?C8 "show" "Book.show" (L4.zcb (K16.top 53) 4) ["self", "pot", "word"] ?C26 := ?p23; ?_)
    (case p23 => dsimp only [L2.KOf]; refine' L4.mkM K16.bd_Book_show ?l ?c ?k; (case l => k_is); (case c => k_is); (case k => k_is))
    refine' (have q24 : PySem.W.findIn (L2.KOf KX) (.ref ?C8) "may_lie" = some (some (.ref ?C27)) := ?p24; ?_)
    (case p24 => dsimp only [L2.KOf]; first | k_is | k_exc | rfl)
    refine' (have q25 : L4.HasM (L2.KOf KX) ?C8 "may_lie" "Book.may_lie" (L4.zcb (K16.top 53) 5) ["self", "pot", "side", "stand", "agreement"] ?C27 := ?p25; ?_)
    (case p25 => dsimp only [L2.KOf]; refine' L4.mkM K16.bd_Book_may_lie ?l ?c ?k; (case l => k_is); (case c => k_is); (case k => k_is))
    refine' (have q26 : PySem.W.findIn (L2.KOf KX) (.ref ?C6) "__init__" = some (some (.ref ?C13)) := ?p26; ?_)
    (case p26 => dsimp only [L2.KOf]; first | k_is | k_exc | rfl)
    refine' (have q27 : L4.HasM (L2.KOf KX) ?C6 "__init__" "Laid.__init__" (L4.zcb (K16.top 43) 0) ["self", "whole", "side", "stand", "day", "wait"] ?C13 := ?p27; ?_)
    (case p27 => dsimp only [L2.KOf]; refine' L4.mkM K16.bd_Laid___init__ ?l ?c ?k; (case l => k_is); (case c => k_is); (case k => k_is))
    refine' (have q28 : PySem.W.findIn (L2.KOf KX) (.ref ?C8) "lay" = some (some (.ref ?C28)) := ?p28; ?_)
    (case p28 => dsimp only [L2.KOf]; first | k_is | k_exc | rfl)
    refine' (have q29 : L4.HasMD (L2.KOf KX) ?C8 "lay" "Book.lay" (L4.zcb (K16.top 53) 6) ["self", "pot", "side", "stand", "agreement"] [.none] ?C28 := ?p29; ?_)
    (case p29 => dsimp only [L2.KOf]; refine' L4.mkMD K16.bd_Book_lay ?l ?c ?d; (case l => k_is); (case c => k_is); (case d => k_is))
    refine' (have q30 : PySem.W.findIn (L2.KOf KX) (.ref ?C5) "told" = some (some (.ref ?C10)) := ?p30; ?_)
    (case p30 => dsimp only [L2.KOf]; first | k_is | k_exc | rfl)
    refine' (have q31 : L4.HasM (L2.KOf KX) ?C5 "told" "Held.told" (L4.zcb (K16.top 42) 0) ["self"] ?C10 := ?p31; ?_)
    (case p31 => dsimp only [L2.KOf]; refine' L4.mkM K16.bd_Held_told ?l ?c ?k; (case l => k_is); (case c => k_is); (case k => k_is))
    refine' (have q32 : PySem.W.findIn (L2.KOf KX) (.ref ?C6) "told" = some (some (.ref ?C14)) := ?p32; ?_)
    (case p32 => dsimp only [L2.KOf]; first | k_is | k_exc | rfl)
    refine' (have q33 : L4.HasM (L2.KOf KX) ?C6 "told" "Laid.told" (L4.zcb (K16.top 43) 1) ["self"] ?C14 := ?p33; ?_)
    (case p33 => dsimp only [L2.KOf]; refine' L4.mkM K16.bd_Laid_told ?l ?c ?k; (case l => k_is); (case c => k_is); (case k => k_is))
    refine' (have q34 : PySem.W.findIn (L2.KOf KX) (.ref ?C7) "told" = some (some (.ref ?C19)) := ?p34; ?_)
    (case p34 => dsimp only [L2.KOf]; first | k_is | k_exc | rfl)
    refine' (have q35 : L4.HasM (L2.KOf KX) ?C7 "told" "Taken.told" (L4.zcb (K16.top 44) 1) ["self"] ?C19 := ?p35; ?_)
    (case p35 => dsimp only [L2.KOf]; refine' L4.mkM K16.bd_Taken_told ?l ?c ?k; (case l => k_is); (case c => k_is); (case k => k_is))
    refine' (have q36 : PySem.W.findIn (L2.KOf KX) (.ref ?C8) "told" = some (some (.ref ?C30)) := ?p36; ?_)
    (case p36 => dsimp only [L2.KOf]; first | k_is | k_exc | rfl)
    refine' (have q37 : L4.HasM (L2.KOf KX) ?C8 "told" "Book.told" (L4.zcb (K16.top 53) 8) ["self", "pot"] ?C30 := ?p37; ?_)
    (case p37 => dsimp only [L2.KOf]; refine' L4.mkM K16.bd_Book_told ?l ?c ?k; (case l => k_is); (case c => k_is); (case k => k_is))
    refine' (have q38 : PySem.W.findIn (L2.KOf KX) (.ref ?C5) "may_strike" = some (some (.ref ?C12)) := ?p38; ?_)
    (case p38 => dsimp only [L2.KOf]; first | k_is | k_exc | rfl)
    refine' (have q39 : L4.HasM (L2.KOf KX) ?C5 "may_strike" "Held.may_strike" (L4.zcb (K16.top 42) 2) ["self", "pot", "side", "day", "thing"] ?C12 := ?p39; ?_)
    (case p39 => dsimp only [L2.KOf]; refine' L4.mkM K16.bd_Held_may_strike ?l ?c ?k; (case l => k_is); (case c => k_is); (case k => k_is))
    refine' (have q40 : PySem.W.findIn (L2.KOf KX) (.ref ?C6) "waits" = some (some (.ref ?C15)) := ?p40; ?_)
    (case p40 => dsimp only [L2.KOf]; first | k_is | k_exc | rfl)
    refine' (have q41 : L4.HasM (L2.KOf KX) ?C6 "waits" "Laid.waits" (L4.zcb (K16.top 43) 2) ["self", "day"] ?C15 := ?p41; ?_)
    (case p41 => dsimp only [L2.KOf]; refine' L4.mkM K16.bd_Laid_waits ?l ?c ?k; (case l => k_is); (case c => k_is); (case k => k_is))
    refine' (have q42 : PySem.W.findIn (L2.KOf KX) (.ref ?C6) "may_strike" = some (some (.ref ?C17)) := ?p42; ?_)
    (case p42 => dsimp only [L2.KOf]; first | k_is | k_exc | rfl)
    refine' (have q43 : L4.HasM (L2.KOf KX) ?C6 "may_strike" "Laid.may_strike" (L4.zcb (K16.top 43) 4) ["self", "pot", "side", "day", "thing"] ?C17 := ?p43; ?_)
    (case p43 => dsimp only [L2.KOf]; refine' L4.mkM K16.bd_Laid_may_strike ?l ?c ?k; (case l => k_is); (case c => k_is); (case k => k_is))
    refine' (have q44 : PySem.W.findIn (L2.KOf KX) (.ref ?C7) "may_strike" = some (some (.ref ?C21)) := ?p44; ?_)
    (case p44 => dsimp only [L2.KOf]; first | k_is | k_exc | rfl)
    refine' (have q45 : L4.HasM (L2.KOf KX) ?C7 "may_strike" "Taken.may_strike" (L4.zcb (K16.top 44) 3) ["self", "pot", "side", "day", "thing"] ?C21 := ?p45; ?_)
    (case p45 => dsimp only [L2.KOf]; refine' L4.mkM K16.bd_Taken_may_strike ?l ?c ?k; (case l => k_is); (case c => k_is); (case k => k_is))
    refine' (have q46 : PySem.W.findIn (L2.KOf KX) (.ref ?C7) "__init__" = some (some (.ref ?C18)) := ?p46; ?_)
    (case p46 => dsimp only [L2.KOf]; first | k_is | k_exc | rfl)
    refine' (have q47 : L4.HasM (L2.KOf KX) ?C7 "__init__" "Taken.__init__" (L4.zcb (K16.top 44) 0) ["self", "whole", "side"] ?C18 := ?p47; ?_)
    (case p47 => dsimp only [L2.KOf]; refine' L4.mkM K16.bd_Taken___init__ ?l ?c ?k; (case l => k_is); (case c => k_is); (case k => k_is))
    refine' (have q48 : PySem.W.findIn (L2.KOf KX) (.ref ?C8) "strike" = some (some (.ref ?C29)) := ?p48; ?_)
    (case p48 => dsimp only [L2.KOf]; first | k_is | k_exc | rfl)
    refine' (have q49 : L4.HasM (L2.KOf KX) ?C8 "strike" "Book.strike" (L4.zcb (K16.top 53) 7) ["self", "pot", "side", "thing"] ?C29 := ?p49; ?_)
    (case p49 => dsimp only [L2.KOf]; refine' L4.mkM K16.bd_Book_strike ?l ?c ?k; (case l => k_is); (case c => k_is); (case k => k_is))
    refine' (have q50 : PySem.W.findIn (L2.KOf KX) (.ref ?C5) "comes" = some (some (.ref ?C11)) := ?p50; ?_)
    (case p50 => dsimp only [L2.KOf]; first | k_is | k_exc | rfl)
    refine' (have q51 : L4.HasM (L2.KOf KX) ?C5 "comes" "Held.comes" (L4.zcb (K16.top 42) 1) ["self", "day", "shown"] ?C11 := ?p51; ?_)
    (case p51 => dsimp only [L2.KOf]; refine' L4.mkM K16.bd_Held_comes ?l ?c ?k; (case l => k_is); (case c => k_is); (case k => k_is))
    refine' (have q52 : PySem.W.findIn (L2.KOf KX) (.ref ?C6) "comes" = some (some (.ref ?C16)) := ?p52; ?_)
    (case p52 => dsimp only [L2.KOf]; first | k_is | k_exc | rfl)
    refine' (have q53 : L4.HasM (L2.KOf KX) ?C6 "comes" "Laid.comes" (L4.zcb (K16.top 43) 3) ["self", "day", "shown"] ?C16 := ?p53; ?_)
    (case p53 => dsimp only [L2.KOf]; refine' L4.mkM K16.bd_Laid_comes ?l ?c ?k; (case l => k_is); (case c => k_is); (case k => k_is))
    refine' (have q54 : PySem.W.findIn (L2.KOf KX) (.ref ?C7) "comes" = some (some (.ref ?C20)) := ?p54; ?_)
    (case p54 => dsimp only [L2.KOf]; first | k_is | k_exc | rfl)
    refine' (have q55 : L4.HasM (L2.KOf KX) ?C7 "comes" "Taken.comes" (L4.zcb (K16.top 44) 2) ["self", "day", "shown"] ?C20 := ?p55; ?_)
    (case p55 => dsimp only [L2.KOf]; refine' L4.mkM K16.bd_Taken_comes ?l ?c ?k; (case l => k_is); (case c => k_is); (case k => k_is))
    refine' (have q56 : PySem.W.findIn (L2.KOf KX) (.ref ?C8) "due_of" = some (some (.ref ?C32)) := ?p56; ?_)
    (case p56 => dsimp only [L2.KOf]; first | k_is | k_exc | rfl)
    refine' (have q57 : L4.HasM (L2.KOf KX) ?C8 "due_of" "Book.due_of" (L4.zcb (K16.top 53) 10) ["self", "pot"] ?C32 := ?p57; ?_)
    (case p57 => dsimp only [L2.KOf]; refine' L4.mkM K16.bd_Book_due_of ?l ?c ?k; (case l => k_is); (case c => k_is); (case k => k_is))
    refine' (have q58 : PySem.W.findIn (L2.KOf KX) (.ref ?C8) "coin_of" = some (some (.ref ?C33)) := ?p58; ?_)
    (case p58 => dsimp only [L2.KOf]; first | k_is | k_exc | rfl)
    refine' (have q59 : L4.HasM (L2.KOf KX) ?C8 "coin_of" "Book.coin_of" (L4.zcb (K16.top 53) 11) ["self", "hand"] ?C33 := ?p59; ?_)
    (case p59 => dsimp only [L2.KOf]; refine' L4.mkM K16.bd_Book_coin_of ?l ?c ?k; (case l => k_is); (case c => k_is); (case k => k_is))
    refine' (have q60 : L2.Cls (L2.KOf KX) ?C8 := ?p60; ?_)
    (case p60 => dsimp only [L2.KOf]; refine' ⟨?a, ?b, ?c, ?d⟩; (case a => k_is); (case b => k_is); (case c => k_is); (case d => k_is))
    refine' (have q61 : L2.zab (L2.KOf KX) ?C8 "pots" := ?p61; ?_)
    (case p61 => dsimp only [L2.KOf]; first | k_is | k_exc | rfl)
    refine' (have q62 : L2.zab (L2.KOf KX) ?C8 "day" := ?p62; ?_)
    (case p62 => dsimp only [L2.KOf]; first | k_is | k_exc | rfl)
    refine' (have q63 : L2.Cls (L2.KOf KX) ?C6 := ?p63; ?_)
    (case p63 => dsimp only [L2.KOf]; refine' ⟨?a, ?b, ?c, ?d⟩; (case a => k_is); (case b => k_is); (case c => k_is); (case d => k_is))
    refine' (have q64 : L2.zab (L2.KOf KX) ?C6 "day" := ?p64; ?_)
    (case p64 => dsimp only [L2.KOf]; first | k_is | k_exc | rfl)
    refine' (have q65 : L2.Cls (L2.KOf KX) ?C7 := ?p65; ?_)
    (case p65 => dsimp only [L2.KOf]; refine' ⟨?a, ?b, ?c, ?d⟩; (case a => k_is); (case b => k_is); (case c => k_is); (case d => k_is))
    refine' (have q66 : L2.zab (L2.KOf KX) ?C7 "whole" := ?p66; ?_)
    (case p66 => dsimp only [L2.KOf]; first | k_is | k_exc | rfl)
    refine' (have q67 : L2.zab (L2.KOf KX) ?C6 "whole" := ?p67; ?_)
    (case p67 => dsimp only [L2.KOf]; first | k_is | k_exc | rfl)
    refine' (have q68 : L2.Cls (L2.KOf KX) ?C5 := ?p68; ?_)
    (case p68 => dsimp only [L2.KOf]; refine' ⟨?a, ?b, ?c, ?d⟩; (case a => k_is); (case b => k_is); (case c => k_is); (case d => k_is))
    refine' (have q69 : L2.zab (L2.KOf KX) ?C5 "whole" := ?p69; ?_)
    (case p69 => dsimp only [L2.KOf]; first | k_is | k_exc | rfl)
    refine' (have q70 : L2.Cls (L2.KOf KX) ?C4 := ?p70; ?_)
    (case p70 => dsimp only [L2.KOf]; refine' ⟨?a, ?b, ?c, ?d⟩; (case a => k_is); (case b => k_is); (case c => k_is); (case d => k_is))
    refine' (have q71 : L2.zab (L2.KOf KX) ?C4 "whole" := ?p71; ?_)
    (case p71 => dsimp only [L2.KOf]; first | k_is | k_exc | rfl)
    refine' (have q72 : L2.Mk (L2.KOf KX) ?C5 ?C9 := ?p72; ?_)
    (case p72 => dsimp only [L2.KOf]; refine' ⟨?a, ?b, ?c, ?d⟩; (case a => k_is); (case b => k_is); (case c => k_is); (case d => k_is))
    refine' (have q73 : L2.zab (L2.KOf KX) ?C8 "claims" := ?p73; ?_)
    (case p73 => dsimp only [L2.KOf]; first | k_is | k_exc | rfl)
    refine' (have q74 : L2.zab (L2.KOf KX) ?C8 "shown" := ?p74; ?_)
    (case p74 => dsimp only [L2.KOf]; first | k_is | k_exc | rfl)
    refine' (have q75 : L2.Mk (L2.KOf KX) ?C8 ?C22 := ?p75; ?_)
    (case p75 => dsimp only [L2.KOf]; refine' ⟨?a, ?b, ?c, ?d⟩; (case a => k_is); (case b => k_is); (case c => k_is); (case d => k_is))
    refine' (have q76 : L2.Meth (L2.KOf KX) ?C8 "next_day" ?C25 := ?p76; ?_)
    (case p76 => dsimp only [L2.KOf]; refine' ⟨?a, ?b, ?c⟩; (case a => k_is); (case b => k_is); (case c => k_is))
    refine' (have q77 : L2.Meth (L2.KOf KX) ?C8 "check_pot" ?C23 := ?p77; ?_)
    (case p77 => dsimp only [L2.KOf]; refine' ⟨?a, ?b, ?c⟩; (case a => k_is); (case b => k_is); (case c => k_is))
    refine' (have q78 : L2.Meth (L2.KOf KX) ?C8 "show" ?C26 := ?p78; ?_)
    (case p78 => dsimp only [L2.KOf]; refine' ⟨?a, ?b, ?c⟩; (case a => k_is); (case b => k_is); (case c => k_is))
    refine' (have q79 : L4.InK (L2.KOf KX) ?C8 := ?p79; ?_)
    (case p79 => dsimp only [L2.KOf]; refine' ⟨⟨?a, ?b, ?c, ?d⟩, ?e, ?f, ?g, ?h⟩; (case a => k_is); (case b => k_is); (case c => k_is); (case d => k_is); (case e => k_is); (case f => k_is); (case g => k_is); (case h => k_is))
    refine' (have q80 : PySem.W.kitOne (L2.KOf KX) (.ref ?C8) (.ref ?C5) = some false := ?p80; ?_)
    (case p80 => dsimp only [L2.KOf]; first | k_is | k_exc | rfl)
    refine' (have q81 : L4.InK (L2.KOf KX) ?C7 := ?p81; ?_)
    (case p81 => dsimp only [L2.KOf]; refine' ⟨⟨?a, ?b, ?c, ?d⟩, ?e, ?f, ?g, ?h⟩; (case a => k_is); (case b => k_is); (case c => k_is); (case d => k_is); (case e => k_is); (case f => k_is); (case g => k_is); (case h => k_is))
    refine' (have q82 : PySem.W.kitOne (L2.KOf KX) (.ref ?C7) (.ref ?C5) = some false := ?p82; ?_)
    (case p82 => dsimp only [L2.KOf]; first | k_is | k_exc | rfl)
    refine' (have q83 : L4.InK (L2.KOf KX) ?C6 := ?p83; ?_)
    (case p83 => dsimp only [L2.KOf]; refine' ⟨⟨?a, ?b, ?c, ?d⟩, ?e, ?f, ?g, ?h⟩; (case a => k_is); (case b => k_is); (case c => k_is); (case d => k_is); (case e => k_is); (case f => k_is); (case g => k_is); (case h => k_is))
    refine' (have q84 : PySem.W.kitOne (L2.KOf KX) (.ref ?C6) (.ref ?C5) = some false := ?p84; ?_)
    (case p84 => dsimp only [L2.KOf]; first | k_is | k_exc | rfl)
    refine' (have q85 : L4.InK (L2.KOf KX) ?C5 := ?p85; ?_)
    (case p85 => dsimp only [L2.KOf]; refine' ⟨⟨?a, ?b, ?c, ?d⟩, ?e, ?f, ?g, ?h⟩; (case a => k_is); (case b => k_is); (case c => k_is); (case d => k_is); (case e => k_is); (case f => k_is); (case g => k_is); (case h => k_is))
    refine' (have q86 : PySem.W.kitOne (L2.KOf KX) (.ref ?C5) (.ref ?C5) = some true := ?p86; ?_)
    (case p86 => dsimp only [L2.KOf]; first | k_is | k_exc | rfl)
    refine' (have q87 : L2.Meth (L2.KOf KX) ?C8 "may_lie" ?C27 := ?p87; ?_)
    (case p87 => dsimp only [L2.KOf]; refine' ⟨?a, ?b, ?c⟩; (case a => k_is); (case b => k_is); (case c => k_is))
    refine' (have q88 : PySem.W.specialIn (L2.KOf KX) (.ref ?C4) (Str.ofString "__getattribute__") = some (some (.builtin "type.__getattribute__")) := ?p88; ?_)
    (case p88 => dsimp only [L2.KOf]; first | k_is | k_exc | rfl)
    refine' (have q89 : PySem.W.readsIn (L2.KOf KX) ?C4 (.type "type") = true := ?p89; ?_)
    (case p89 => dsimp only [L2.KOf]; first | k_is | k_exc | rfl)
    refine' (have q90 : PySem.W.findCls (L2.KOf KX) (.ref ?C4) (.type "type") "__init__" = some (.val (.ref ?C9)) := ?p90; ?_)
    (case p90 => dsimp only [L2.KOf]; first | k_is | k_exc | rfl)
    refine' (have q91 : PySem.W.keepIn (L2.KOf KX) (.ref ?C9) = true := ?p91; ?_)
    (case p91 => dsimp only [L2.KOf]; first | k_is | k_exc | rfl)
    refine' (have q92 : L2.zab (L2.KOf KX) ?C7 "side" := ?p92; ?_)
    (case p92 => dsimp only [L2.KOf]; first | k_is | k_exc | rfl)
    refine' (have q93 : L2.zab (L2.KOf KX) ?C6 "side" := ?p93; ?_)
    (case p93 => dsimp only [L2.KOf]; first | k_is | k_exc | rfl)
    refine' (have q94 : L2.zab (L2.KOf KX) ?C6 "stand" := ?p94; ?_)
    (case p94 => dsimp only [L2.KOf]; first | k_is | k_exc | rfl)
    refine' (have q95 : L2.zab (L2.KOf KX) ?C6 "wait" := ?p95; ?_)
    (case p95 => dsimp only [L2.KOf]; first | k_is | k_exc | rfl)
    refine' (have q96 : L2.Mk (L2.KOf KX) ?C6 ?C13 := ?p96; ?_)
    (case p96 => dsimp only [L2.KOf]; refine' ⟨?a, ?b, ?c, ?d⟩; (case a => k_is); (case b => k_is); (case c => k_is); (case d => k_is))
    refine' (have q97 : L2.Meth (L2.KOf KX) ?C8 "lay" ?C28 := ?p97; ?_)
    (case p97 => dsimp only [L2.KOf]; refine' ⟨?a, ?b, ?c⟩; (case a => k_is); (case b => k_is); (case c => k_is))
    refine' (have q98 : L2.Meth (L2.KOf KX) ?C7 "told" ?C19 := ?p98; ?_)
    (case p98 => dsimp only [L2.KOf]; refine' ⟨?a, ?b, ?c⟩; (case a => k_is); (case b => k_is); (case c => k_is))
    refine' (have q99 : L2.Meth (L2.KOf KX) ?C6 "told" ?C14 := ?p99; ?_)
    (case p99 => dsimp only [L2.KOf]; refine' ⟨?a, ?b, ?c⟩; (case a => k_is); (case b => k_is); (case c => k_is))
    refine' (have q100 : L2.Meth (L2.KOf KX) ?C5 "told" ?C10 := ?p100; ?_)
    (case p100 => dsimp only [L2.KOf]; refine' ⟨?a, ?b, ?c⟩; (case a => k_is); (case b => k_is); (case c => k_is))
    refine' (have q101 : L2.Meth (L2.KOf KX) ?C8 "told" ?C30 := ?p101; ?_)
    (case p101 => dsimp only [L2.KOf]; refine' ⟨?a, ?b, ?c⟩; (case a => k_is); (case b => k_is); (case c => k_is))
    refine' (have q102 : L2.Meth (L2.KOf KX) ?C6 "waits" ?C15 := ?p102; ?_)
    (case p102 => dsimp only [L2.KOf]; refine' ⟨?a, ?b, ?c⟩; (case a => k_is); (case b => k_is); (case c => k_is))
    refine' (have q103 : L2.Meth (L2.KOf KX) ?C7 "may_strike" ?C21 := ?p103; ?_)
    (case p103 => dsimp only [L2.KOf]; refine' ⟨?a, ?b, ?c⟩; (case a => k_is); (case b => k_is); (case c => k_is))
    refine' (have q104 : L2.Meth (L2.KOf KX) ?C6 "may_strike" ?C17 := ?p104; ?_)
    (case p104 => dsimp only [L2.KOf]; refine' ⟨?a, ?b, ?c⟩; (case a => k_is); (case b => k_is); (case c => k_is))
    refine' (have q105 : L2.Meth (L2.KOf KX) ?C5 "may_strike" ?C12 := ?p105; ?_)
    (case p105 => dsimp only [L2.KOf]; refine' ⟨?a, ?b, ?c⟩; (case a => k_is); (case b => k_is); (case c => k_is))
    refine' (have q106 : L2.Mk (L2.KOf KX) ?C7 ?C18 := ?p106; ?_)
    (case p106 => dsimp only [L2.KOf]; refine' ⟨?a, ?b, ?c, ?d⟩; (case a => k_is); (case b => k_is); (case c => k_is); (case d => k_is))
    refine' (have q107 : L2.Meth (L2.KOf KX) ?C8 "strike" ?C29 := ?p107; ?_)
    (case p107 => dsimp only [L2.KOf]; refine' ⟨?a, ?b, ?c⟩; (case a => k_is); (case b => k_is); (case c => k_is))
    refine' (have q108 : L2.Meth (L2.KOf KX) ?C7 "comes" ?C20 := ?p108; ?_)
    (case p108 => dsimp only [L2.KOf]; refine' ⟨?a, ?b, ?c⟩; (case a => k_is); (case b => k_is); (case c => k_is))
    refine' (have q109 : L2.Meth (L2.KOf KX) ?C6 "comes" ?C16 := ?p109; ?_)
    (case p109 => dsimp only [L2.KOf]; refine' ⟨?a, ?b, ?c⟩; (case a => k_is); (case b => k_is); (case c => k_is))
    refine' (have q110 : L2.Meth (L2.KOf KX) ?C5 "comes" ?C11 := ?p110; ?_)
    (case p110 => dsimp only [L2.KOf]; refine' ⟨?a, ?b, ?c⟩; (case a => k_is); (case b => k_is); (case c => k_is))
    refine' (have q111 : L2.Meth (L2.KOf KX) ?C8 "due_of" ?C32 := ?p111; ?_)
    (case p111 => dsimp only [L2.KOf]; refine' ⟨?a, ?b, ?c⟩; (case a => k_is); (case b => k_is); (case c => k_is))
    refine' (have q112 : L2.Meth (L2.KOf KX) ?C8 "coin_of" ?C33 := ?p112; ?_)
    (case p112 => dsimp only [L2.KOf]; refine' ⟨?a, ?b, ?c⟩; (case a => k_is); (case b => k_is); (case c => k_is))
    refine ⟨fun n => ([?C0, ?C1, ?C2, 0, ?C4, ?C5, ?C6, ?C7, ?C8, ?C9, ?C10, ?C11, ?C12, ?C13, ?C14, ?C15, ?C16, ?C17, ?C18, ?C19, ?C20, ?C21, ?C22, ?C23, 0, ?C25, ?C26, ?C27, ?C28, ?C29, ?C30, 0, ?C32, ?C33] : List Addr).getD n 0, ?_⟩
    exact K16.ok_law ⟨h__law_cell_at, h__law_mixed, h__law_pots, h_is_whole, h_is_between, h_is_hand, h_makes_a_pot, h_checked_pots, q15, h_whole_of, q17, h__law_small_stand, q19, q21, h_is_word, q23, h_is_side, h_check_side, h_deals, h_is_day, h_is_amount, h_is_tie, h_are_ties, h_are_shares, h_is_number, h_is_stand, h_is_stand_of, h_other_side, h_is_pot, h_is_of_a_side, h_is_thing, h_is_agreed, h_stand, h_first, q25, q27, q29, q31, q33, q35, q37, q39, q41, q43, q45, q47, q49, h__law_try, q51, h_shown_in_time, h_side_due, h_with_more, q53, q55, q57, q59, h__law_kept, h_law, n_all, n_bool, n_enumerate, n_int, n_isinstance, n_len, n_list, n_min, n_range, n_set, n_str, n_sum, n_tuple, c_MOST_AMOUNT, c_MOST_COIN, c_MOST_DAY, c_MOST_HAND, c_MOST_NUMBER, c_MOST_POT, c_MOST_SHARE, c_MOST_TIES, c_MOST_WAIT, c_MOST_WORD, PySem.W.mg_of KX G q0, q1, PySem.W.mg_of KX G q2, q3, PySem.W.mg_of KX G q4, q5, q6, q7, q8, q60, q61, q62, q63, q64, q65, q66, q67, q68, q69, q70, q71, PySem.W.mg_of KX G q10, q72, q73, q74, PySem.W.mg_of KX G q13, q75, q76, q77, q78, q79, q80, q81, q82, q83, q84, q85, q86, q87, PySem.W.mg_of KX G q9, q88, q89, q90, q91, q92, q93, q94, q95, PySem.W.mg_of KX G q11, q96, q97, q98, q99, q100, q101, q102, q103, q104, q105, PySem.W.mg_of KX G q12, q106, q107, q108, q109, q110, q111, q112⟩
