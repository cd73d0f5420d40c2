import PyProof.Rows.All
import Wide.All
import OpenK.AllK
import Wide.FinOn
import PyProof.EqAt
import PyProof.EqKinds
import PyProof.TupleCall
import KE.BitLaws
import KE.KCallOwn
import OpenK.KTop
import PyProof.ListRange
import PyProof.TupleOfStr
import PyProof.WalkInts
import PyProof.MaxThree
import PyProof.Rows.SetFrom
import PyProof.WalksMore
import PyProof.P3In
import PyProof.EqLayable
import PyProof.Rows.InDataRows
import PyProof.IsRules
import PyProof.ExcInit
import PyProof.InstStoreFacts
import KE.KNestM
import KE.KLam
import PyProof.Rows.CallKwBuiltin
import KE.KDictList
import PySem.Challenge.RW_pixelstages_k43_the_greatest_rounding
set_option Elab.async false
set_option linter.all false
set_option maxRecDepth 100000
/-! THE HAND LAYER, for ints, bools, texts, own classes, lists, tuples, dicts, comprehensions, walks over dicts, enumerate, zip, reversed, texts, calls, loops. Paste it whole ahead of your own text; what your proof does not reach may be deleted. -/
namespace L2
open PySem PySem.Spec PyProof.Rows

/-- a key: an int or a str -/
abbrev Key := Sum Int Str
def keyIs : Key → Value → Bool
  | .inl k, v => Value.isInt k v
  | .inr x, v => Value.isStrOf x v
def keyH (w : World) : Key → Int
  | .inl k => hashInt k
  | .inr x => hashStr w x
theorem keyIs_shape : ∀ {k : Key} {v : Value}, keyIs k v = true → (∃ i t, k = Sum.inl i ∧ v = Value.int i t) ∨ (∃ x t, k = Sum.inr x ∧ v = Value.str x t)
  | .inl i, v, h => by
    obtain ⟨t, e⟩ := Value.isInt_shape (k := i) (v := v) h
    exact .inl ⟨i, t, rfl, e⟩
  | .inr x, v, h => by
    obtain ⟨t, e⟩ := Value.isStrOf_shape (x := x) (v := v) h
    exact .inr ⟨x, t, rfl, e⟩
theorem keyIs_int (i : Int) (t : Tok) : keyIs (.inl i) (.int i t) = true := by simp [keyIs, Value.isInt]
theorem keyIs_str (x : Str) (t : Tok) : keyIs (.inr x) (.str x t) = true := by simp [keyIs, Value.isStrOf]
theorem key_ll (a b : Int) : decide ((Sum.inl a : Key) = Sum.inl b) = (a == b) := by
  by_cases e : a = b
  · subst e; simp
  · have h : ¬ (Sum.inl a : Key) = Sum.inl b := fun q => e (Sum.inl.inj q)
    rw [decide_eq_false h]
    exact (beq_eq_false_iff_ne.mpr e).symm
theorem key_rr (a b : Str) : decide ((Sum.inr a : Key) = Sum.inr b) = decide (a = b) := by
  by_cases e : a = b
  · subst e; simp
  · have h : ¬ (Sum.inr a : Key) = Sum.inr b := fun q => e (Sum.inr.inj q)
    rw [decide_eq_false h, decide_eq_false e]
theorem key_lr (a : Int) (b : Str) : decide ((Sum.inl a : Key) = Sum.inr b) = false := decide_eq_false (fun q => nomatch q)
theorem key_rl (a : Str) (b : Int) : decide ((Sum.inr a : Key) = Sum.inl b) = false := decide_eq_false (fun q => nomatch q)

def mixKind (prog : Program) (w : World) : PySem.KeyKind prog w Key where
  is := keyIs
  hash := keyH w
  inj := fun v a b ha hb => by
    rcases keyIs_shape ha with ⟨i, t, rfl, rfl⟩ | ⟨x, t, rfl, rfl⟩
    · rcases keyIs_shape hb with ⟨j, u, rfl, e⟩ | ⟨y, u, rfl, e⟩
      · injection e with e1 _; rw [e1]
      · exact nomatch e
    · rcases keyIs_shape hb with ⟨j, u, rfl, e⟩ | ⟨y, u, rfl, e⟩
      · exact nomatch e
      · injection e with e1 _; rw [e1]
  byValue := fun k v h => by
    rcases keyIs_shape h with ⟨i, t, rfl, rfl⟩ | ⟨x, t, rfl, rfl⟩ <;> rfl
  pyHash := fun hv h => by
    rcases keyIs_shape hv with ⟨i, t, rfl, rfl⟩ | ⟨x, t, rfl, rfl⟩
    · exact wpAny_pyHash_int h
    · exact wpAny_pyHash_str h
  eqBool := fun hu hv h => by
    rcases keyIs_shape hu with ⟨i, t, rfl, rfl⟩ | ⟨x, t, rfl, rfl⟩
    · rcases keyIs_shape hv with ⟨j, u, rfl, rfl⟩ | ⟨y, u, rfl, rfl⟩
      · rw [key_ll] at h; exact wpAny_eqBool_int h
      · rw [key_lr] at h; exact SeqAt.EqAt.int_str i t y u _ _ _ _ h
    · rcases keyIs_shape hv with ⟨j, u, rfl, rfl⟩ | ⟨y, u, rfl, rfl⟩
      · rw [key_rl] at h; exact SeqAt.EqAt.str_int x t j u _ _ _ _ h
      · rw [key_rr] at h; exact wpAny_eqBool_str h
  «strs» := fun k x t v h => by
    rcases keyIs_shape h with ⟨i, u, rfl, e⟩ | ⟨y, u, rfl, e⟩
    · exact nomatch e
    · injection e with e1 _
      subst e1
      cases v <;> rfl

theorem mixKind_int (prog : Program) (w : World) (i : Int) (t : Tok) : (mixKind prog w).is (.inl i) (.int i t) = true := keyIs_int i t
theorem mixKind_str (prog : Program) (w : World) (x : Str) (t : Tok) : (mixKind prog w).is (.inr x) (.str x t) = true := keyIs_str x t
end L2

namespace L2
open PySem PySem.Spec PyProof.Rows

/-- a value, without the heap -/
inductive V where
  | non | bl (b : Bool) | int (i : Int) | str (x : Str) | byt (b : Array UInt8) | flt (b : UInt64) | ref (a : Addr) | ty (n : String)
  deriving DecidableEq

def RelV : V → Value → Prop
  | .non, u => u = Value.none
  | .bl b, u => u = Value.bool b
  | .int i, u => ∃ t, u = Value.int i t
  | .str x, u => ∃ t, u = Value.str x t
  | .byt b, u => ∃ t, u = Value.bytes b t
  | .flt b, u => ∃ t, u = Value.float b t
  | .ref a, u => u = Value.ref a
  | .ty n, u => u = Value.type n

abbrev Vals : List V → List Value → Prop := Paired RelV
theorem Vals.length {xs : List V} {us : List Value} (r : Vals xs us) : xs.length = us.length := Paired.length r
theorem Vals.get : ∀ {xs : List V} {us : List Value} {i : Nat} {x : V}, Vals xs us → xs[i]? = some x → ∃ u, us[i]? = some u ∧ RelV x u
  | _, _, _, _, .nil, e => by simp at e
  | _, _, 0, _, .cons r _, e => by simp at e; subst e; exact ⟨_, rfl, r⟩
  | _, _, i + 1, x, .cons _ t, e => by
    obtain ⟨u, h1, h2⟩ := Vals.get (i := i) (x := x) t (by simpa using e)
    exact ⟨u, by simpa using h1, h2⟩
theorem Vals.set {x : V} {u : Value} (r : RelV x u) : ∀ {xs : List V} {us : List Value} (i : Nat), Vals xs us → Vals (xs.set i x) (us.set i u)
  | _, _, _, .nil => .nil
  | _, _, 0, .cons _ t => .cons r t
  | _, _, i + 1, .cons q t => .cons q (Vals.set r i t)
theorem Vals.append : ∀ {xs ys : List V} {us ws : List Value}, Vals xs us → Vals ys ws → Vals (xs ++ ys) (us ++ ws)
  | _, _, _, _, .nil, s => s
  | _, _, _, _, .cons r t, s => .cons r (Vals.append t s)
theorem Vals.take : ∀ {xs : List V} {us : List Value} (n : Nat), Vals xs us → Vals (xs.take n) (us.take n)
  | _, _, 0, _ => .nil
  | _, _, _ + 1, .nil => .nil
  | _, _, n + 1, .cons r t => .cons r (Vals.take n t)
theorem Vals.drop : ∀ {xs : List V} {us : List Value} (n : Nat), Vals xs us → Vals (xs.drop n) (us.drop n)
  | _, _, 0, r => r
  | _, _, _ + 1, .nil => .nil
  | _, _, n + 1, .cons _ t => Vals.drop n t
theorem Vals.none_of : ∀ {xs : List V} {us : List Value} {i : Nat}, Vals xs us → xs[i]? = none → us[i]? = none := fun {xs us i} r e => by
  have h1 := r.length
  have h2 : xs.length ≤ i := List.getElem?_eq_none_iff.mp e
  exact List.getElem?_eq_none_iff.mpr (by omega)

def RelO : Option V → Option Value → Prop
  | some v, some u => RelV v u
  | none, none => True
  | _, _ => False
def KV {κ : Type} : List (κ × V) → List (κ × Value) → Prop := Paired fun (p : κ × V) (q : κ × Value) => p.1 = q.1 ∧ RelV p.2 q.2

/-- a key of a dict (00_mix): an int or a text -/
def kV : Key → V
  | .inl i => .int i
  | .inr x => .str x

/-- what stands at a tracked address -/
inductive HO where
  /-- a list -/
  | lst (xs : List V)
  /-- a tuple (never changes) -/
  | tup (xs : List V)
  /-- a dict whose keys are ints and texts; one whose keys are tuples of ints and texts (the empty one is both) -/
  | dK (kvs : List (Key × V)) | dT (kvs : List (List Key × V))
  /-- a set of ints: its members, its size -/
  | set (S : Int → Bool) (n : Nat)
  /-- an instance of the class at C, its dict at dx, its attributes -/
  | ins (C dx : Addr) (fs : List (Str × V))
  /-- the dict of the instance at x -/
  | own (x : Addr)
  /-- the dict of an exception -/
  | xd (fs : List (Str × V))
  /-- a bound method, f of x -/
  | met (f x : Addr)
  /-- a range object lo, lo + 1, .. below hi -/
  | rng (lo hi : Int)
  /-- a thing that is known to the object (the script; a dict while a loop walks it): read, never written while it is so -/
  | frz (o : Obj) (u : HO)
  /-- a code object's table -/
  | tbl (ps : Array Value)
  /-- any other thing, by what is true of its one object (a def of one's own: SetO a S n := HO.ext fun h => ..) -/
  | ext (φ : Heap → Prop)

abbrev Hp := Addr → Option HO
def upd (H : Hp) (a : Addr) (o : HO) : Hp := fun b => if b = a then some o else H b
theorem upd_same {H : Hp} {a : Addr} {o : HO} : upd H a o a = some o := by unfold upd; rw [if_pos rfl]
theorem upd_ne {H : Hp} {a b : Addr} {o : HO} (h : b ≠ a) : upd H a o b = H b := by unfold upd; rw [if_neg h]
theorem upd_upd {H : Hp} {a : Addr} {o u : HO} : upd (upd H a o) a u = upd H a u := by
  funext b; unfold upd; split <;> rfl
/-- two objects of different content stand apart -/
theorem ne_of {H : Hp} {a b : Addr} {o u : HO} (h : H a = some o) (h' : H b = some u) (d : o ≠ u) : a ≠ b := by
  intro e; subst e; rw [h] at h'; exact d (Option.some.inj h')
theorem ne_of_none {H : Hp} {a b : Addr} {o : HO} (h : H a = some o) (h' : H b = none) : a ≠ b := by
  intro e; subst e; rw [h] at h'; cases h'

section
variable (P : Program) (w : World)
def ObjOk (H : Hp) (h : Heap) (a : Addr) : HO → Prop
  | .lst xs => xs.length ≤ sizeLine ∧ ∃ (its : List Value) (n : Nat), Vals xs its ∧ h.get? a = some { cls := .type "list", data := .seq its.toArray n }
  | .tup xs => xs.length ≤ sizeLine ∧ ∃ its : List Value, Vals xs its ∧ IsTup h a its.toArray ∧ ∃ o, h.get? a = some o ∧ o.dict = none
  | .dK kvs => kvs.length ≤ sizeLine ∧ (a == sysModules) = false ∧ ∃ vs, KV kvs vs ∧ h.DictOf (mixKind P w) a vs
  | .dT kvs => kvs.length ≤ sizeLine ∧ (a == sysModules) = false ∧ ∃ xs : List (List Key × Addr × Value),
      Paired (fun (p : List Key × V) (q : List Key × Addr × Value) => p.1 = q.1 ∧ H q.2.1 = some (.tup (p.1.map kV)) ∧ RelV p.2 q.2.2) kvs xs ∧
      ∃ o es ep, h.get? a = some o ∧ o.ExactDict ∧ o.data = .dict es ep ∧ es.toList = xs.map (entryOfKey (tupleKind (mixKind P w))) ∧ (xs.map (·.1)).Nodup
  | .set S n => h.SetOf (intKind P w) a S n
  | .ins C dx fs => H dx = some (.own a) ∧ fs.length ≤ 1000 ∧ dx ≠ a ∧ h.get? a = some (PySem.W.instObj C dx) ∧
      ∃ mA, h.Ns1 dx mA ∧ (∀ f, RelO (fs.lookup f) (mA f)) ∧ PySem.Within mA (fs.map (·.1))
  | .own _ => ∃ o, h.get? a = some o
  | .xd fs => ∃ mA, h.Ns1 a mA ∧ ∀ f, RelO (fs.lookup f) (mA f)
  | .rng lo hi => ∃ t u v, h.get? a = some { cls := .type "range", data := .fields #[.int lo t, .int hi u, .int 1 v] }
  | .frz o u => h.get? a = some o ∧ ObjOk H h a u
  | .tbl ps => h.get? a = some { cls := .none, data := .fields ps }
  | .met f x => h.get? a = some (PySem.W.methodObj (.ref f) (.ref x))
  | .ext φ => φ h ∧ (∃ o, h.get? a = some o) ∧ ∀ h1 h2 : Heap, φ h1 → (∀ o, h1.get? a = some o → h2.get? a = some o) → φ h2
/-- the abstract heap is held -/
def HOk (H : Hp) (h : Heap) : Prop := ∀ a o, H a = some o → ObjOk P w H h a o
end

section
variable {P : Program} {w : World} {H H' : Hp} {h h' : Heap} {a : Addr} {o : HO}
theorem ObjOk.lt (x : ObjOk P w H h a o) : a < h.objs.size := by
  cases o with
  | lst xs => obtain ⟨_, _, _, _, e⟩ := x; exact Heap.lt_size e
  | tup xs => obtain ⟨_, _, _, p, _⟩ := x; exact p.lt
  | dK kvs => obtain ⟨_, _, _, _, o, _, _, e, _⟩ := x; exact Heap.lt_size e
  | dT kvs => obtain ⟨_, _, _, _, o, _, _, e, _⟩ := x; exact Heap.lt_size e
  | set S n => obtain ⟨o, _, _, _, e, _⟩ := x; exact Heap.lt_size e
  | ins C dx fs => obtain ⟨_, _, _, e, _⟩ := x; exact Heap.lt_size e
  | own y => obtain ⟨_, e⟩ := x; exact Heap.lt_size e
  | xd fs => obtain ⟨_, ⟨_, _, _, e, _⟩, _⟩ := x; exact Heap.lt_size e
  | rng lo hi => obtain ⟨_, _, _, e⟩ := x; exact Heap.lt_size e
  | frz ob u => obtain ⟨e, _⟩ := x; exact Heap.lt_size e
  | tbl ps => exact Heap.lt_size (show h.get? a = some _ from x)
  | met f y => exact Heap.lt_size (show h.get? a = some _ from x)
  | ext φ => obtain ⟨_, ⟨_, e⟩, _⟩ := x; exact Heap.lt_size e
theorem Paired.mapP {α β : Type} {F G : α → β → Prop} : ∀ {l₁ : List α} {l₂ : List β}, Paired F l₁ l₂ → (∀ a b, F a b → G a b) → Paired G l₁ l₂
  | _, _, .nil, _ => .nil
  | _, _, .cons r t, f => .cons (f _ _ r) (Paired.mapP t f)
/-- what an object's description leans on: its own object, its own dict, the tuples -/
theorem ObjOk.stay (x : ObjOk P w H h a o) (k : ∀ b u, (b = a ∨ H b = some (.own a)) → h.get? b = some u → h'.get? b = some u)
    (ho : ∀ b, H b = some (.own a) → H' b = some (.own a)) (ht : ∀ b xs, H b = some (.tup xs) → H' b = some (.tup xs)) : ObjOk P w H' h' a o := by
  induction o with
  | lst xs => obtain ⟨z, its, n, r, e⟩ := x; exact ⟨z, its, n, r, k _ _ (.inl rfl) e⟩
  | tup xs => obtain ⟨z, its, r, ⟨ob, e, c⟩, o2, e2, d2⟩ := x; exact ⟨z, its, r, ⟨ob, k _ _ (.inl rfl) e, c⟩, o2, k _ _ (.inl rfl) e2, d2⟩
  | dK kvs => obtain ⟨z, y, vs, r, ob, es, ep, e, c⟩ := x; exact ⟨z, y, vs, r, ob, es, ep, k _ _ (.inl rfl) e, c⟩
  | dT kvs =>
    obtain ⟨z, y, xs, r, ob, es, ep, e, c⟩ := x
    exact ⟨z, y, xs, Paired.mapP r fun p q z => ⟨z.1, ht _ _ z.2.1, z.2.2⟩, ob, es, ep, k _ _ (.inl rfl) e, c⟩
  | set S n => obtain ⟨ob, es, ep, t, e, c⟩ := x; exact ⟨ob, es, ep, t, k _ _ (.inl rfl) e, c⟩
  | ins C dx fs =>
    obtain ⟨d, z, ne, e, mA, ⟨od, es, ep, e2, c⟩, r⟩ := x
    exact ⟨ho _ d, z, ne, k _ _ (.inl rfl) e, mA, ⟨od, es, ep, k _ _ (.inr d) e2, c⟩, r⟩
  | own y => obtain ⟨ob, e⟩ := x; exact ⟨ob, k _ _ (.inl rfl) e⟩
  | xd fs => obtain ⟨mA, ⟨od, es, ep, e, c⟩, r⟩ := x; exact ⟨mA, ⟨od, es, ep, k _ _ (.inl rfl) e, c⟩, r⟩
  | rng lo hi => obtain ⟨t, u, v, e⟩ := x; exact ⟨t, u, v, k _ _ (.inl rfl) e⟩
  | frz ob u ih => obtain ⟨e, q⟩ := x; exact ⟨k _ _ (.inl rfl) e, ih q⟩
  | tbl ps =>
    have e : h.get? a = some { cls := .none, data := .fields ps } := x
    show h'.get? a = some { cls := .none, data := .fields ps }
    exact k a _ (.inl rfl) e
  | met f y =>
    have e : h.get? a = some (PySem.W.methodObj (.ref f) (.ref y)) := x
    show h'.get? a = some (PySem.W.methodObj (.ref f) (.ref y))
    exact k a _ (.inl rfl) e
  | ext φ => obtain ⟨p, ⟨o, e⟩, st⟩ := x; exact ⟨st _ _ p fun o q => k _ _ (.inl rfl) q, ⟨o, k _ _ (.inl rfl) e⟩, st⟩
theorem HOk.lt (x : HOk P w H h) (e : H a = some o) : a < h.objs.size := (x a o e).lt
theorem HOk.fresh (x : HOk P w H h) (e : h.objs.size ≤ a) : H a = none := by
  cases q : H a with
  | none => rfl
  | some u => exact absurd (Nat.lt_of_lt_of_le (x.lt q) e) (Nat.lt_irrefl _)
/-- every object of the heap is kept -/
theorem HOk.kept (x : HOk P w H h) (k : ∀ b u, h.get? b = some u → h'.get? b = some u) : HOk P w H h' := fun a o e =>
  (x a o e).stay (fun b u _ q => k b u q) (fun _ q => q) fun _ _ q => q
/-- a new object is laid and tracked -/
theorem HOk.laid (x : HOk P w H h) (k : ∀ b u, h.get? b = some u → h'.get? b = some u) (hp : h.objs.size ≤ a) (new : ObjOk P w (upd H a o) h' a o) : HOk P w (upd H a o) h' := fun b u e => by
  have hn := x.fresh hp
  by_cases hb : b = a
  · subst hb; rw [upd_same] at e; cases e; exact new
  · rw [upd_ne hb] at e
    exact (x b u e).stay (fun c v _ q => k c v q) (fun c q => by rw [upd_ne (ne_of_none q hn)]; exact q) fun c xs q => by rw [upd_ne (ne_of_none q hn)]; exact q
end

/-- what may be read as u: it is u, or a known u -/
def Rd (H : Hp) (a : Addr) (u : HO) : Prop := H a = some u ∨ ∃ o, H a = some (.frz o u)
theorem Rd.of {H : Hp} {a : Addr} {u : HO} (h : H a = some u) : Rd H a u := .inl h
theorem Rd.ok {P : Program} {w : World} {H : Hp} {h : Heap} {a : Addr} {u : HO} (r : Rd H a u) (x : HOk P w H h) : ObjOk P w H h a u := by
  rcases r with r | ⟨o, r⟩
  · exact x a u r
  · obtain ⟨_, q⟩ := x a _ r
    exact q
/-- what may be written -/
def Mut : Option HO → Prop
  | some (.lst _) => True
  | some (.dK _) => True
  | some (.dT _) => True
  | some (.set _ _) => True
  | some (.ins _ _ _) => True
  | some (.ext _) => True
  | _ => False
section
variable {P : Program} {w : World} {H : Hp} {h h' : Heap} {x e : Addr} {o' : HO}
/-- the object at e is changed: x itself, or the dict of the instance x -/
theorem HOk.write (ok : HOk P w H h) (mu : Mut (H x)) (he : e = x ∨ H e = some (.own x)) (k : ∀ b u, b ≠ e → h.get? b = some u → h'.get? b = some u) (heo : ∃ u, h'.get? e = some u)
    (new : ObjOk P w (upd H x o') h' x o') : HOk P w (upd H x o') h' := fun b u q => by
  have nown : ∀ c y, H c = some (.own y) → c ≠ x := fun c y r z => by subst z; rw [r] at mu; exact mu
  have ntup : ∀ c xs, H c = some (.tup xs) → c ≠ x := fun c xs r z => by subst z; rw [r] at mu; exact mu
  by_cases hb : b = x
  · subst hb; rw [upd_same] at q; cases q; exact new
  · rw [upd_ne hb] at q
    by_cases hbe : b = e
    · have q' : H b = some (.own x) := by
        rcases he with z | z
        · exact absurd (hbe.trans z) hb
        · rw [hbe]; exact z
      rw [q] at q'; cases q'
      obtain ⟨v, hv⟩ := heo
      exact ⟨v, by rw [hbe]; exact hv⟩
    · refine (ok b u q).stay (fun c v hc r => k c v ?_ r) (fun c r => by rw [upd_ne (nown c b r)]; exact r) fun c xs r => by rw [upd_ne (ntup c xs r)]; exact r
      rcases hc with rfl | hc
      · exact hbe
      · rintro rfl
        rcases he with z | z
        · exact nown c b hc z
        · rw [hc] at z; cases z; exact hb rfl
end

/-! ### kept unless tracked; of the frames at fs (the callers') the slots may change (an exception that passes writes there); of the records at ex (iterators) nothing is said -/
structure Un (fs ex : List Addr) (H H' : Hp) (h h' : Heap) : Prop where
  keep : ∀ b o, h.get? b = some o → H b = none → b ∉ fs → b ∉ ex → h'.get? b = some o
  slot : ∀ b o, h.get? b = some o → H b = none → b ∈ fs → b ∉ ex → ∃ sl, h'.get? b = some { o with slots := sl }
  free : ∀ b o, h.get? b = some o → H b = none → b ∉ ex → H' b = none
  there : ∀ b o, h.get? b = some o → b ∉ ex → ∃ o', h'.get? b = some o'
  tups : ∀ b xs, H b = some (.tup xs) → H' b = some (.tup xs)
  frzs : ∀ b o u, H b = some (.frz o u) → H' b = some (.frz o u)
  tbls : ∀ b ps, H b = some (.tbl ps) → ∃ more, H' b = some (.tbl (ps ++ more))
section
variable {fs fs' ex ex' : List Addr} {H H1 H2 : Hp} {h h1 h2 h' : Heap} {a x e : Addr} {o : HO}
theorem Un.any (u : Un fs ex H H1 h h1) {b : Addr} {ob : Obj} (q : h.get? b = some ob) (n : H b = none) (hx : b ∉ ex) : ∃ sl, h1.get? b = some { ob with slots := sl } := by
  by_cases hb : b ∈ fs
  · exact u.slot b ob q n hb hx
  · exact ⟨ob.slots, u.keep b ob q n hb hx⟩
theorem Un.trans (a : Un fs ex H H1 h h1) (b : Un fs ex H1 H2 h1 h2) : Un fs ex H H2 h h2 where
  keep := fun c ob q n hc hx => b.keep c ob (a.keep c ob q n hc hx) (a.free c ob q n hx) hc hx
  slot := fun c ob q n hc hx => by
    obtain ⟨sl, e1⟩ := a.slot c ob q n hc hx
    obtain ⟨sl', e2⟩ := b.slot c _ e1 (a.free c ob q n hx) hc hx
    exact ⟨sl', e2⟩
  free := fun c ob q n hx => by
    obtain ⟨o', e1⟩ := a.there c ob q hx
    exact b.free c o' e1 (a.free c ob q n hx) hx
  there := fun c ob q hx => by
    obtain ⟨o', e1⟩ := a.there c ob q hx
    exact b.there c o' e1 hx
  tups := fun c xs q => b.tups c xs (a.tups c xs q)
  frzs := fun c ob xs q => b.frzs c ob xs (a.frzs c ob xs q)
  tbls := fun c ps q => by
    obtain ⟨m1, e1⟩ := a.tbls c ps q
    obtain ⟨m2, e2⟩ := b.tbls c _ e1
    exact ⟨m1 ++ m2, by rw [e2, Array.append_assoc]⟩
theorem Un.kept (k : ∀ b u, h.get? b = some u → h'.get? b = some u) : Un fs ex H H h h' :=
  ⟨fun b ob q _ _ _ => k b ob q, fun b ob q _ _ _ => ⟨ob.slots, k b ob q⟩, fun _ _ _ n _ => n, fun b ob q _ => ⟨ob, k b ob q⟩, fun _ _ q => q, fun _ _ _ q => q, fun _ ps q => ⟨#[], by rw [q]; simp⟩⟩
theorem Un.refl : Un fs ex H H h h := Un.kept fun _ _ q => q
theorem Un.laid (k : ∀ b u, h.get? b = some u → h'.get? b = some u) (hp : h.objs.size ≤ a) (hn : H a = none) : Un fs ex H (upd H a o) h h' where
  keep := fun b u q _ _ _ => k b u q
  slot := fun b u q _ _ _ => ⟨u.slots, k b u q⟩
  free := fun b u q n _ => by rw [upd_ne (Nat.ne_of_lt (Nat.lt_of_lt_of_le (Heap.lt_size q) hp))]; exact n
  there := fun b u q _ => ⟨u, k b u q⟩
  tups := fun b xs q => by rw [upd_ne (ne_of_none q hn)]; exact q
  frzs := fun b u xs q => by rw [upd_ne (ne_of_none q hn)]; exact q
  tbls := fun b ps q => ⟨#[], by rw [upd_ne (ne_of_none q hn), q]; simp⟩
theorem Un.write (mu : Mut (H x)) (he : e = x ∨ H e = some (.own x)) (k : ∀ b u, b ≠ e → h.get? b = some u → h'.get? b = some u) (heo : ∃ u, h'.get? e = some u) : Un fs ex H (upd H x o) h h' := by
  have hx : ∀ b, H b = none → b ≠ x := fun b n z => by subst z; rw [n] at mu; exact mu
  have hb : ∀ b, H b = none → b ≠ e := fun b n z => by
    subst z
    rcases he with r | r
    · exact hx b n r
    · rw [n] at r; cases r
  have hm : ∀ b u, H b = some u → ¬ Mut (some u) → b ≠ x := fun b u q nm z => by subst z; rw [q] at mu; exact nm mu
  refine ⟨fun b u q n _ _ => k b u (hb b n) q, fun b u q n _ _ => ⟨u.slots, k b u (hb b n) q⟩, fun b u q n _ => by rw [upd_ne (hx b n)]; exact n, fun b u q _ => ?_,
    fun b xs q => by rw [upd_ne (hm b _ q fun z => z)]; exact q, fun b u xs q => by rw [upd_ne (hm b _ q fun z => z)]; exact q, fun b ps q => ⟨#[], by rw [upd_ne (hm b _ q fun z => z), q]; simp⟩⟩
  by_cases hbe : b = e
  · subst hbe; exact heo
  · exact ⟨u, k b u hbe q⟩
theorem Un.mono (u : Un fs ex H H1 h h1) (hs : ∀ b ∈ fs, b ∈ fs') (hx : ∀ b ∈ ex, b ∈ ex') : Un fs' ex' H H1 h h1 :=
  ⟨fun b ob q n hb he => u.keep b ob q n (fun z => hb (hs b z)) fun z => he (hx b z), fun _ _ q n _ he => u.any q n fun z => he (hx _ z), fun b ob q n he => u.free b ob q n fun z => he (hx b z), fun b ob q he => u.there b ob q fun z => he (hx b z), u.tups, u.frzs, u.tbls⟩
end

/-! ### the heap without what is tracked -/
def trk (h : Heap) (H : Hp) : List Addr := (List.range h.objs.size).filter fun a => (H a).isSome
def hidT (h : Heap) (H : Hp) : Heap := PySem.W.hideAll h (trk h H)
theorem hidT_size (h : Heap) (H : Hp) : (hidT h H).objs.size = h.objs.size := PySem.W.hideAll_size _ _
theorem hidT_get {h : Heap} {H : Hp} {b : Addr} {o : Obj} (e : h.get? b = some o) (n : H b = none) : (hidT h H).get? b = some o :=
  PySem.W.hideAll_get _ e fun hm => by
    have q : (H b).isSome = true := (List.mem_filter.mp hm).2
    rw [n] at q; simp at q
theorem of_hidT {h : Heap} {H : Hp} {b : Addr} {o : Obj} (e : (hidT h H).get? b = some o) : h.get? b = some o ∧ H b = none := by
  have e' : h.get? b = some o := PySem.W.of_hideAll (trk h H) e
  refine ⟨e', ?_⟩
  cases q : H b with
  | none => rfl
  | some x =>
    have hm : b ∈ trk h H := List.mem_filter.mpr ⟨List.mem_range.mpr (Heap.lt_size e'), by simp [q]⟩
    have z : (hidT h H).get? b = none := PySem.W.hideAll_none (trk h H) hm
    rw [z] at e; cases e

/-! ### OpenK's ledger, filled with every new object but one -/
def allNews (g h : Heap) (L : Addr) : List (Addr × Obj) := (List.range h.objs.size).filterMap fun a => if a = L ∨ (g.get? a).isSome = true then none else (h.get? a).map fun o => (a, o)
def rest (g h : Heap) (L d : Addr) : List (Addr × Obj) := (allNews g h L).filter fun p => decide (p.1 ≠ d)
end L2

namespace L2
open PySem PySem.Spec PyProof.Rows

/-- the module's facts, over the base: the heap at the law's entry without what is tracked there -/
structure Mod (K : PySem.W.Frag) (mg : Str → Option Value) (base : Heap) : Prop where
  kin : K.In base
  glob : base.Ns mainGlobals mg
  blt : ∃ mb, base.Ns builtinsNs mb ∧ ∀ x : Str, x ≠ "__name__" → mb x = bootBuiltins x
  nolimit : base.NoLimit

/-- the context: a def's body (or a comprehension's block) running. base: fixed through the whole law; s₀, H₀: the entry; outer: the frames whose slots others may change (a def's callers); stack: all frames that run;
   ex: iterators that were made ahead of the entry and are walked here (a comprehension's); fn: the names whose cells were made at the entry (a def: all; a comprehension's block: its own); calm: not within an except suite; pn: pins that every state bears; xe: what is wanted of an exception that leaves the code -/
structure Cx where
  prog : Program
  w : World
  K : PySem.W.Frag
  mg : Str → Option Value
  base : Heap
  A : Around
  N : List Str
  s_0 : Shared
  H_0 : Hp
  env : Env
  outer : List Env
  stack : List Env
  ex : List Addr
  fn : Str → Bool
  calm : Bool
  pn : List (Addr × Obj)
  xe : Value → Shared → Prop
/-- the callers' frames -/
def frs (l : List Env) : List Addr := l.filterMap (·.frame)
abbrev Cx.fs (X : Cx) : List Addr := frs X.outer

def Vis (sc : Scope) (x : Str) : Prop := sc.names.lookup x = some .local ∨ sc.names.lookup x = some .cell ∨ sc.names.lookup x = some .free
def Loc (sc : Scope) (x : Str) : Prop := sc.names.lookup x = some .local ∨ sc.names.lookup x = some .cell
def Look (env : Env) (h : Heap) (m : Str → Option Value) (x : Str) (u : Value) : Prop :=
  (env.kindOf x = some .local ∧ m x = some u) ∨ ((env.kindOf x = some .cell ∨ env.kindOf x = some .free) ∧ ∃ c, env.cells.lookup x = some c ∧ h.IsCell c (some u))

structure Cx.Ok (X : Cx) : Prop where
  mod : Mod X.K X.mg X.base
  kind : X.env.scope.kind = .function
  glob : X.env.globals = mainGlobals
  blt : X.env.builtins = builtinsNs
  above : X.s_0.heap.objs.size ≤ X.env.locals
  inj : ∀ x y c, X.env.cells.lookup x = some c → X.env.cells.lookup y = some c → x = y
  has : ∀ x, (X.env.kindOf x = some .cell ∨ X.env.kindOf x = some .free) → ∃ c, X.env.cells.lookup x = some c
  cab : ∀ x c, X.fn x = true → X.env.cells.lookup x = some c → X.s_0.heap.objs.size ≤ c
  hd : X.calm = true → X.A.handled = none
  frames : X.A.frames = some X.stack
  stk : X.stack = X.outer ∨ (X.stack = X.env :: X.outer ∧ X.env.frame = some X.env.locals)
  exf : ∀ b ∈ X.ex, b ≠ X.env.locals ∧ ∀ x c, X.env.cells.lookup x = some c → c ≠ b
  bs : ∀ b o, X.base.get? b = some o → X.s_0.heap.get? b = some o ∧ X.H_0 b = none
  bsz : X.base.objs.size ≤ X.s_0.heap.objs.size
  noex : ∀ b o, X.base.get? b = some o → b ∉ X.ex
  exfs : ∀ b ∈ X.ex, b ∉ X.fs
  funs : X.s_0.heap.FunFrames X.base X.outer
  frf : ∀ b ∈ X.fs, X.H_0 b = none

structure Inv (X : Cx) (pins : List (Addr × Obj)) (σ : List (Option V)) (H : Hp) (s : Shared) : Prop where
  ok : X.Ok
  os : s.os = X.s_0.os
  bare : AllBare s.gens
  base : Un X.fs X.ex X.H_0 H X.s_0.heap s.heap
  loc : ∃ m, s.heap.Ns X.env.locals m ∧ ∀ (i : Nat) (x : Str) (v : V), X.N[i]? = some x → σ[i]? = some (some v) → Vis X.env.scope x → ∃ u, RelV v u ∧ Look X.env s.heap m x u
  cell : ∀ x c, X.env.cells.lookup x = some c → ∃ v, s.heap.IsCell c v
  free : H X.env.locals = none
  freeC : ∀ x c, X.env.cells.lookup x = some c → H c = none
  pin : ∀ p ∈ X.pn ++ pins, s.heap.get? p.1 = some p.2 ∧ H p.1 = none ∧ p.1 ≠ X.env.locals ∧ p.1 ∉ X.fs ∧ ∀ v, p.2.data ≠ .cell v
  hok : HOk X.prog X.w H s.heap
  len : σ.length = X.N.length

section
variable {X : Cx} {pins : List (Addr × Obj)} {σ : List (Option V)} {H H' : Hp} {s : Shared} {h' : Heap}

theorem Cx.Ok.nofr (ok : X.Ok) {b : Addr} {o : Obj} (e : X.base.get? b = some o) : b ∉ X.fs := fun hb => by
  have := (ok.funs.mem hb).1
  rw [e] at this; cases this
theorem Inv.bs (I : Inv X pins σ H s) : ∀ b o, X.base.get? b = some o → s.heap.get? b = some o ∧ H b = none := fun b o e =>
  ⟨I.base.keep b o (I.ok.bs b o e).1 (I.ok.bs b o e).2 (I.ok.nofr e) (I.ok.noex b o e), I.base.free b o (I.ok.bs b o e).1 (I.ok.bs b o e).2 (I.ok.noex b o e)⟩
theorem Inv.bk (I : Inv X pins σ H s) : ∀ b o, X.base.get? b = some o → s.heap.get? b = some o := fun b o e => (I.bs b o e).1
theorem Inv.mod (I : Inv X pins σ H s) : Mod X.K X.mg X.base := I.ok.mod
theorem Inv.kIn (I : Inv X pins σ H s) : X.K.In s.heap := I.ok.mod.kin.keeps I.bk
theorem Inv.nolimit (I : Inv X pins σ H s) : s.heap.NoLimit := I.ok.mod.nolimit.keeps I.bk
/-- the frame over the base: for OpenK's rules (K.In X.base is I.mod.kin) -/
theorem Inv.fr (I : Inv X pins σ H s) : ∃ m, Fr X.base X.env.locals s.heap m :=
  let ⟨m, hn, _⟩ := I.loc
  ⟨m, hn, I.bk, Nat.le_trans I.ok.bsz I.ok.above⟩
theorem Inv.lt (I : Inv X pins σ H s) : X.env.locals < s.heap.objs.size := let ⟨_, hn, _⟩ := I.loc; hn.lt
theorem Inv.sz (I : Inv X pins σ H s) : X.s_0.heap.objs.size ≤ s.heap.objs.size := Nat.le_trans I.ok.above (Nat.le_of_lt I.lt)
theorem Inv.nofs (I : Inv X pins σ H s) {a : Addr} (h : s.heap.objs.size ≤ a) : a ∉ X.fs := fun hb => by
  obtain ⟨_, o, ho, _⟩ := I.ok.funs.mem hb
  exact absurd (Nat.lt_of_lt_of_le (Heap.lt_size ho) (Nat.le_trans I.sz h)) (Nat.lt_irrefl _)
theorem Inv.cne (I : Inv X pins σ H s) : ∀ x c, X.env.cells.lookup x = some c → c ≠ X.env.locals := fun x c e z => by
  obtain ⟨v, o, ho, hd⟩ := I.cell x c e
  obtain ⟨m, ⟨o', es, ep, ho', hd', _⟩, _⟩ := I.loc
  rw [z, ho'] at ho; cases ho; rw [hd'] at hd; cases hd
theorem Inv.funs (I : Inv X pins σ H s) : s.heap.FunFrames X.base X.outer := by
  have all : ∀ (l : List Env), (∀ b ∈ frs l, b ∈ X.fs) → X.s_0.heap.FunFrames X.base l → s.heap.FunFrames X.base l := by
    intro l
    induction l with
    | nil => intro _ _; trivial
    | cons env r ih =>
      intro hs hl
      obtain ⟨hk, ⟨L, o, hf, hn, ho, hd⟩, hr⟩ := hl
      have hL : L ∈ X.fs := hs L (by unfold frs; rw [List.filterMap_cons, hf]; exact List.mem_cons_self)
      obtain ⟨sl, e⟩ := I.base.slot L o ho (I.ok.frf L hL) hL fun z => I.ok.exfs L z hL
      exact ⟨hk, ⟨L, _, hf, hn, e, hd⟩, ih (fun b hb => hs b (by unfold frs; rw [List.filterMap_cons, hf]; exact List.mem_cons_of_mem _ hb)) hr⟩
  exact all X.outer (fun _ hb => hb) I.ok.funs

/-- the frames that run, for a call -/
theorem Inv.stack (I : Inv X pins σ H s) : s.heap.FunFrames X.base X.stack := by
  rcases I.ok.stk with e | ⟨e, hf⟩
  · rw [e]; exact I.funs
  · rw [e]
    obtain ⟨m, hn, _⟩ := I.loc
    refine .cons (by rw [I.ok.kind]; decide) hf hn ?_ I.funs
    exact Heap.get?_none_of_le (Nat.le_trans I.ok.bsz I.ok.above)
theorem Inv.stkSub (I : Inv X pins σ H s) : ∀ b ∈ frs X.stack, b ∈ X.env.locals :: X.fs := fun b hb => by
  rcases I.ok.stk with e | ⟨e, hf⟩
  · rw [e] at hb; exact List.mem_cons_of_mem _ hb
  · rw [e] at hb
    unfold frs at hb
    rw [List.filterMap_cons, hf] at hb
    exact hb
theorem Inv.stkFree (I : Inv X pins σ H s) : ∀ b ∈ frs X.stack, H b = none := fun b hb => by
  rcases List.mem_cons.mp (I.stkSub b hb) with e | hb
  · rw [e]; exact I.free
  · obtain ⟨_, o, ho, _⟩ := I.ok.funs.mem hb
    exact I.base.free b o ho (I.ok.frf b hb) fun z => I.ok.exfs b z hb

/-- THE STEP: the untracked objects but the frame and the records at ch are kept (the callers' frames up to slots), the frame's map is kept, the new abstract heap is held -/
theorem Inv.step {g' : Array GenState} {t' : Nat} {d' : Drawn} {ch : List Addr} (I : Inv X pins σ H s)
    (hch : ∀ b ∈ ch, (b ∈ X.ex ∨ X.s_0.heap.objs.size ≤ b) ∧ b ≠ X.env.locals ∧ (∀ x c, X.env.cells.lookup x = some c → c ≠ b) ∧ ∀ p ∈ X.pn ++ pins, p.1 ≠ b)
    (keep : ∀ b o, b ≠ X.env.locals → b ∉ X.fs → b ∉ ch → s.heap.get? b = some o → H b = none → h'.get? b = some o)
    (slot : ∀ b o, b ≠ X.env.locals → b ∈ X.fs → b ∉ ch → s.heap.get? b = some o → H b = none → ∃ sl, h'.get? b = some { o with slots := sl }) (free : ∀ b o, b ∉ ch → s.heap.get? b = some o → H b = none → H' b = none)
    (there : ∀ b o, b ∉ ch → s.heap.get? b = some o → ∃ o', h'.get? b = some o')
    (tups : ∀ b xs, H b = some (.tup xs) → H' b = some (.tup xs)) (frzs : ∀ b o u, H b = some (.frz o u) → H' b = some (.frz o u)) (tbls : ∀ b ps, H b = some (.tbl ps) → ∃ more, H' b = some (.tbl (ps ++ more)))
    (ns : ∀ m, s.heap.Ns X.env.locals m → h'.Ns X.env.locals m) (hok : HOk X.prog X.w H' h') (hg : AllBare g') :
    Inv X pins σ H' { s with heap := h', gens := g', drawn := d', toks := t' } := by
  have neL : ∀ b o, X.s_0.heap.get? b = some o → b ≠ X.env.locals := fun b o e => Nat.ne_of_lt (Nat.lt_of_lt_of_le (Heap.lt_size e) I.ok.above)
  have neC : ∀ b o, X.s_0.heap.get? b = some o → b ∉ X.ex → b ∉ ch := fun b o e hx hb => by
    rcases (hch b hb).1 with z | z
    · exact hx z
    · exact absurd (Nat.lt_of_lt_of_le (Heap.lt_size e) z) (Nat.lt_irrefl _)
  have cellK : ∀ x c, X.env.cells.lookup x = some c → ∀ v, s.heap.IsCell c v → h'.IsCell c v := fun x c e v ⟨o, ho, hd⟩ => by
    have nch : c ∉ ch := fun z => (hch c z).2.2.1 x c e rfl
    by_cases hc : c ∈ X.fs
    · obtain ⟨sl, q⟩ := slot c o (I.cne x c e) hc nch ho (I.freeC x c e)
      exact ⟨_, q, hd⟩
    · exact ⟨o, keep c o (I.cne x c e) hc nch ho (I.freeC x c e), hd⟩
  refine ⟨I.ok, I.os, hg, ⟨fun b o e n hb hx => ?_, fun b o e n hb hx => ?_, fun b o e n hx => ?_, fun b o e hx => ?_, fun b xs e => tups b xs (I.base.tups b xs e), fun b o xs e => frzs b o xs (I.base.frzs b o xs e), fun b ps e => ?_⟩, ?_, fun x c e => ?_, ?_, fun x c e => ?_, fun p hp => ?_, hok, I.len⟩
  · exact keep b o (neL b o e) hb (neC b o e hx) (I.base.keep b o e n hb hx) (I.base.free b o e n hx)
  · obtain ⟨sl, e1⟩ := I.base.slot b o e n hb hx
    obtain ⟨sl', e2⟩ := slot b _ (neL b o e) hb (neC b o e hx) e1 (I.base.free b o e n hx)
    exact ⟨sl', e2⟩
  · obtain ⟨o', e1⟩ := I.base.there b o e hx
    exact free b o' (neC b o e hx) e1 (I.base.free b o e n hx)
  · obtain ⟨o', e1⟩ := I.base.there b o e hx
    exact there b o' (neC b o e hx) e1
  · obtain ⟨m1, e1⟩ := I.base.tbls b ps e
    obtain ⟨m2, e2⟩ := tbls b _ e1
    exact ⟨m1 ++ m2, by rw [e2, Array.append_assoc]⟩
  · obtain ⟨m, hn, hl⟩ := I.loc
    refine ⟨m, ns m hn, fun i x v e1 e2 e3 => ?_⟩
    obtain ⟨u, r, l⟩ := hl i x v e1 e2 e3
    refine ⟨u, r, ?_⟩
    rcases l with l | ⟨k, c, e, z⟩
    · exact .inl l
    · exact .inr ⟨k, c, e, cellK x c e _ z⟩
  · obtain ⟨v, z⟩ := I.cell x c e
    exact ⟨v, cellK x c e v z⟩
  · obtain ⟨m, ⟨o, _, _, ho, _⟩, _⟩ := I.loc
    exact free _ o (fun z => (hch _ z).2.1 rfl) ho I.free
  · obtain ⟨v, o, ho, hd⟩ := I.cell x c e
    exact free c o (fun z => (hch c z).2.2.1 x c e rfl) ho (I.freeC x c e)
  · obtain ⟨e, n, ne, nf, d⟩ := I.pin p hp
    have nch : p.1 ∉ ch := fun z => (hch p.1 z).2.2.2 p hp rfl
    exact ⟨keep p.1 p.2 ne nf nch e n, free p.1 p.2 nch e n, ne, nf, d⟩
/-- .. where the frame's own object is kept too -/
theorem Inv.un {t' : Nat} (I : Inv X pins σ H s) (u : Un X.fs [] H H' s.heap h') (hok : HOk X.prog X.w H' h') : Inv X pins σ H' { s with heap := h', toks := t' } := by
  obtain ⟨m, ⟨o, es, ep, ho, r⟩, _⟩ := id I.loc
  obtain ⟨sl, hL⟩ := u.any ho I.free (by simp)
  exact I.step (g' := s.gens) (d' := s.drawn) (ch := []) (fun _ z => nomatch z) (fun b o _ hb _ e n => u.keep b o e n hb (by simp)) (fun b o _ hb _ e n => u.slot b o e n hb (by simp)) (fun b o _ e n => u.free b o e n (by simp)) (fun b o _ e => u.there b o e (by simp)) u.tups u.frzs u.tbls (fun m' hm => by
    obtain ⟨o', es', ep', ho', r'⟩ := hm
    rw [ho] at ho'; cases ho'
    exact ⟨_, es', ep', hL, r'⟩) hok I.bare
/-- behind a call (or a comprehension's block): the slots of this frame may have changed too, the records at ch may have turned -/
theorem Inv.call {g' : Array GenState} {t' : Nat} {d' : Drawn} {ch : List Addr} (I : Inv X pins σ H s) (u : Un (frs X.stack) ch H H' s.heap h') (hok : HOk X.prog X.w H' h') (hg : AllBare g')
    (hch : ∀ b ∈ ch, (b ∈ X.ex ∨ X.s_0.heap.objs.size ≤ b) ∧ b ≠ X.env.locals ∧ (∀ x c, X.env.cells.lookup x = some c → c ≠ b) ∧ ∀ p ∈ X.pn ++ pins, p.1 ≠ b) :
    Inv X pins σ H' { s with heap := h', gens := g', drawn := d', toks := t' } := by
  obtain ⟨m, ⟨o, es, ep, ho, r⟩, _⟩ := id I.loc
  obtain ⟨sl, hL⟩ := u.any ho I.free fun z => (hch _ z).2.1 rfl
  exact I.step (ch := ch) hch (fun b o hL hb hc e n => u.keep b o e n (fun z => (List.mem_cons.mp (I.stkSub b z)).elim hL hb) hc) (fun b o _ _ hc e n => u.any e n hc) (fun b o hc e n => u.free b o e n hc) (fun b o hc e => u.there b o e hc) u.tups u.frzs u.tbls (fun m' hm => by
    obtain ⟨o', es', ep', ho', r'⟩ := hm
    rw [ho] at ho'; cases ho'
    exact ⟨_, es', ep', hL, r'⟩) hok hg
/-- an untracked record of ours (an iterator) has turned -/
theorem Inv.turned {t' : Nat} {it : Addr} (I : Inv X pins σ H s) (k : ∀ b o, b ≠ it → s.heap.get? b = some o → h'.get? b = some o) (hn : H it = none) (hL : it ≠ X.env.locals)
    (h1 : it ∈ X.ex ∨ X.s_0.heap.objs.size ≤ it) (h2 : ∀ x c, X.env.cells.lookup x = some c → c ≠ it) (h3 : ∀ p ∈ X.pn ++ pins, p.1 ≠ it) : Inv X pins σ H { s with heap := h', toks := t' } := by
  have nit : ∀ b u, H b = some u → b ≠ it := fun b u e z => by rw [z, hn] at e; cases e
  refine I.step (g' := s.gens) (d' := s.drawn) (ch := [it]) (fun b hb => ?_) (fun b o _ _ hc e _ => k b o (fun z => hc (by simp [z])) e) (fun b o _ _ hc e _ => ⟨o.slots, k b o (fun z => hc (by simp [z])) e⟩) (fun _ _ _ _ n => n)
    (fun b o hc e => ⟨o, k b o (fun z => hc (by simp [z])) e⟩) (fun _ _ e => e) (fun _ _ _ e => e) (fun b ps e => ⟨#[], by rw [e]; simp⟩) (fun m hm => ?_) (fun b u e => ?_) I.bare
  · have e : b = it := by simpa using hb
    subst e
    exact ⟨h1, hL, h2, h3⟩
  · obtain ⟨o, es, ep, ho, r⟩ := hm
    exact ⟨o, es, ep, k _ o (Ne.symm hL) ho, r⟩
  · refine (I.hok b u e).stay (fun c v hc q => k c v ?_ q) (fun _ q => q) fun _ _ q => q
    rcases hc with z | z
    · rw [z]; exact nit b u e
    · exact nit c _ z
theorem Inv.tok (I : Inv X pins σ H s) (t : Nat) : Inv X pins σ H { s with toks := t } := I.un (h' := s.heap) (t' := t) Un.refl I.hok
/-- all objects kept -/
theorem Inv.kept {t' : Nat} (I : Inv X pins σ H s) (k : ∀ b u, s.heap.get? b = some u → h'.get? b = some u) : Inv X pins σ H { s with heap := h', toks := t' } := I.un (Un.kept k) (I.hok.kept k)
/-- a new object laid and tracked -/
theorem Inv.laid {a : Addr} {o : HO} {t' : Nat} (I : Inv X pins σ H s) (k : ∀ b u, s.heap.get? b = some u → h'.get? b = some u) (hp : s.heap.objs.size ≤ a) (new : ObjOk X.prog X.w (upd H a o) h' a o) :
    Inv X pins σ (upd H a o) { s with heap := h', toks := t' } := I.un (Un.laid k hp (I.hok.fresh hp)) (I.hok.laid k hp new)
/-- an object written -/
theorem Inv.write {x e : Addr} {o : HO} {t' : Nat} (I : Inv X pins σ H s) (mu : Mut (H x)) (he : e = x ∨ H e = some (.own x)) (k : ∀ b u, b ≠ e → s.heap.get? b = some u → h'.get? b = some u) (heo : ∃ u, h'.get? e = some u)
    (new : ObjOk X.prog X.w (upd H x o) h' x o) : Inv X pins σ (upd H x o) { s with heap := h', toks := t' } := I.un (Un.write mu he k heo) (I.hok.write mu he k heo new)
/-- forgetting slots, pins -/
theorem Inv.weak {σ' : List (Option V)} (I : Inv X pins σ H s) (hl : σ'.length = σ.length) (w : ∀ (i : Nat) v, σ'[i]? = some (some v) → σ[i]? = some (some v)) : Inv X pins σ' H s :=
  ⟨I.ok, I.os, I.bare, I.base, let ⟨m, hn, hl'⟩ := I.loc; ⟨m, hn, fun i x v e1 e2 e3 => hl' i x v e1 (w i v e2) e3⟩, I.cell, I.free, I.freeC, I.pin, I.hok, hl.trans I.len⟩
theorem Inv.pins_of {pins' : List (Addr × Obj)} (I : Inv X pins σ H s) (h : ∀ p ∈ pins', s.heap.get? p.1 = some p.2 ∧ H p.1 = none ∧ p.1 ≠ X.env.locals ∧ p.1 ∉ X.fs ∧ ∀ v, p.2.data ≠ .cell v) : Inv X pins' σ H s :=
  ⟨I.ok, I.os, I.bare, I.base, I.loc, I.cell, I.free, I.freeC, fun p hp => (List.mem_append.mp hp).elim (fun z => I.pin p (List.mem_append_left _ z)) (h p), I.hok, I.len⟩

theorem nodup_ix {N : List Str} (hN : N.Nodup) {i j : Nat} {x : Str} (a : N[i]? = some x) (b : N[j]? = some x) : i = j := by
  obtain ⟨h1, e1⟩ := List.getElem?_eq_some_iff.mp a
  obtain ⟨h2, e2⟩ := List.getElem?_eq_some_iff.mp b
  exact (List.getElem_inj hN).mp (e1.trans e2.symm)

/-- a name is stored; what changed -/
theorem store_ok2 {M : Model} {A : Around} {E : Value → Shared → Prop} {i : Nat} {x : Str} {v : V} {u : Value} {Q : Unit → Shared → Prop} (I : Inv X pins σ H s) (hN : X.N.Nodup) (hi : X.N[i]? = some x) (hx : Loc X.env.scope x) (r : RelV v u)
    (h : ∀ s', Inv X pins (σ.set i (some v)) H s' → (∃ a, Heap.SameBut a s.heap s'.heap ∧ (a = X.env.locals ∨ X.env.cells.lookup x = some a)) → Q () s') (hf : X.fn x = true ∨ X.env.scope.names.lookup x = some .local := by first | exact .inl rfl | exact .inr rfl | assumption) : wpAny M A (storeName X.env x u) Q E s := by
  obtain ⟨m, hn, hl⟩ := id I.loc
  have hcls : (X.env.scope.kind == .class || (X.env.scope.kind == .module && X.env.locals != X.env.globals)) = false := by rw [I.ok.kind]; rfl
  have hiσ : i < σ.length := by rw [I.len]; exact (List.getElem?_eq_some_iff.mp hi).1
  have cne := I.cne
  have tracked : ∀ {a : Addr} {h' : Heap}, (∃ o, s.heap.get? a = some o ∧ H a = none) → Heap.SameBut a s.heap h' → HOk X.prog X.w H h' := fun {a h'} ha hs b ob e => by
    obtain ⟨_, _, hfree⟩ := ha
    refine (I.hok b ob e).stay (fun c w' hc q => (hs.2 c ?_).trans q) (fun _ q => q) fun _ _ q => q
    rintro rfl
    rcases hc with rfl | hc
    · rw [hfree] at e; cases e
    · rw [hfree] at hc; cases hc
  rcases hx with hk | hk
  · refine wpAny_storeName_local hk hn (fun h' hn' hs => ?_) hcls
    obtain ⟨oL, _, _, hoL, _⟩ := id hn
    refine h _ ⟨I.ok, I.os, I.bare, ⟨fun b o e n hb hx => ?_, fun b o e n hb hx => ?_, I.base.free, fun b o e hx => ?_, I.base.tups, I.base.frzs, I.base.tbls⟩, ⟨_, hn', fun j y v' e1 e2 e3 => ?_⟩, fun y c e => ?_, I.free, I.freeC, fun p hp => ?_, tracked ⟨oL, hoL, I.free⟩ hs, by simpa using I.len⟩ ⟨_, hs, .inl rfl⟩
    · exact (hs.2 b (Nat.ne_of_lt (Nat.lt_of_lt_of_le (Heap.lt_size e) I.ok.above))).trans (I.base.keep b o e n hb hx)
    · obtain ⟨sl, e1⟩ := I.base.slot b o e n hb hx
      exact ⟨sl, (hs.2 b (Nat.ne_of_lt (Nat.lt_of_lt_of_le (Heap.lt_size e) I.ok.above))).trans e1⟩
    · obtain ⟨o', e1⟩ := I.base.there b o e hx
      exact ⟨o', (hs.2 b (Nat.ne_of_lt (Nat.lt_of_lt_of_le (Heap.lt_size e) I.ok.above))).trans e1⟩
    · by_cases hj : j = i
      · subst hj
        rw [hi] at e1; cases e1
        rw [List.getElem?_set_self hiσ] at e2
        cases e2
        exact ⟨u, r, .inl ⟨hk, by simp⟩⟩
      · rw [List.getElem?_set_ne (Ne.symm hj)] at e2
        obtain ⟨u', r', q⟩ := hl j y v' e1 e2 e3
        refine ⟨u', r', ?_⟩
        rcases q with ⟨k, e⟩ | ⟨k, c, e, z⟩
        · refine .inl ⟨k, ?_⟩
          have : y ≠ x := fun e => hj (nodup_ix hN e1 (e ▸ hi))
          simp [this, e]
        · exact .inr ⟨k, c, e, z.sameBut hs (cne y c e)⟩
    · obtain ⟨w', z⟩ := I.cell y c e
      exact ⟨w', z.sameBut hs (cne y c e)⟩
    · obtain ⟨e, n, ne, nf, d⟩ := I.pin p hp
      exact ⟨(hs.2 p.1 ne).trans e, n, ne, nf, d⟩
  · have hfn : X.fn x = true := by
      rcases hf with z | z
      · exact z
      · rw [z] at hk; cases hk
    obtain ⟨c, hc⟩ := I.ok.has x (.inl hk)
    obtain ⟨w', z⟩ := I.cell x c hc
    refine wpAny_storeName_cell I.ok.kind hk hc z (fun h' hc' hs => ?_)
    obtain ⟨oc, hoc, hocd⟩ := id z
    refine h { s with heap := h' } ⟨I.ok, I.os, I.bare, ⟨fun b o e n hb hx => ?_, fun b o e n hb hx => ?_, I.base.free, fun b o e hx => ?_, I.base.tups, I.base.frzs, I.base.tbls⟩, ⟨m, hn.sameBut hs (Ne.symm (cne x c hc)), fun j y v' e1 e2 e3 => ?_⟩, fun y c' e => ?_, I.free, I.freeC, fun p hp => ?_, tracked ⟨oc, hoc, I.freeC x c hc⟩ hs, by simpa using I.len⟩ ⟨c, hs, .inr hc⟩
    · exact (hs.2 b (Nat.ne_of_lt (Nat.lt_of_lt_of_le (Heap.lt_size e) (I.ok.cab x c hfn hc)))).trans (I.base.keep b o e n hb hx)
    · obtain ⟨sl, e1⟩ := I.base.slot b o e n hb hx
      exact ⟨sl, (hs.2 b (Nat.ne_of_lt (Nat.lt_of_lt_of_le (Heap.lt_size e) (I.ok.cab x c hfn hc)))).trans e1⟩
    · obtain ⟨o', e1⟩ := I.base.there b o e hx
      exact ⟨o', (hs.2 b (Nat.ne_of_lt (Nat.lt_of_lt_of_le (Heap.lt_size e) (I.ok.cab x c hfn hc)))).trans e1⟩
    · by_cases hj : j = i
      · subst hj
        rw [hi] at e1; cases e1
        rw [List.getElem?_set_self hiσ] at e2
        cases e2
        exact ⟨u, r, .inr ⟨.inl hk, c, hc, hc'⟩⟩
      · rw [List.getElem?_set_ne (Ne.symm hj)] at e2
        obtain ⟨u', r', q⟩ := hl j y v' e1 e2 e3
        refine ⟨u', r', ?_⟩
        rcases q with q | ⟨k, c', e, z'⟩
        · exact .inl q
        · refine .inr ⟨k, c', e, z'.sameBut hs ?_⟩
          rintro rfl
          exact hj (nodup_ix hN e1 (I.ok.inj _ _ _ e hc ▸ hi))
    · by_cases hcc : c' = c
      · subst hcc; exact ⟨_, hc'⟩
      · obtain ⟨w2, z2⟩ := I.cell y c' e
        exact ⟨w2, z2.sameBut hs hcc⟩
    · obtain ⟨e, n, ne, nf, d⟩ := I.pin p hp
      refine ⟨(hs.2 p.1 ?_).trans e, n, ne, nf, d⟩
      intro q
      rw [q, hoc] at e
      have q' : oc = p.2 := Option.some.inj e
      exact d w' (by rw [← q']; exact hocd)
theorem store_ok {M : Model} {A : Around} {E : Value → Shared → Prop} {i : Nat} {x : Str} {v : V} {u : Value} {Q : Unit → Shared → Prop} (I : Inv X pins σ H s) (hN : X.N.Nodup) (hi : X.N[i]? = some x) (hx : Loc X.env.scope x) (r : RelV v u)
    (h : ∀ s', Inv X pins (σ.set i (some v)) H s' → Q () s') (hf : X.fn x = true ∨ X.env.scope.names.lookup x = some .local := by first | exact .inl rfl | exact .inr rfl | assumption) : wpAny M A (storeName X.env x u) Q E s :=
  store_ok2 I hN hi hx r (fun s' I' _ => h s' I') hf
/-- behind a call or a block, the state as it is -/
theorem Inv.call' {s' : Shared} {ch : List Addr} (I : Inv X pins σ H s) (ho : s'.os = s.os) (u : Un (frs X.stack) ch H H' s.heap s'.heap) (hok : HOk X.prog X.w H' s'.heap) (hg : AllBare s'.gens)
    (hch : ∀ b ∈ ch, (b ∈ X.ex ∨ X.s_0.heap.objs.size ≤ b) ∧ b ≠ X.env.locals ∧ (∀ x c, X.env.cells.lookup x = some c → c ≠ b) ∧ ∀ p ∈ X.pn ++ pins, p.1 ≠ b) : Inv X pins σ H' s' := by
  obtain ⟨h', g', d', t', o'⟩ := s'
  have e : o' = s.os := ho
  subst e
  exact I.call (g' := g') (t' := t') (d' := d') u hok hg hch
end

/-! ### the judgements -/
/-- an exception: its class, its own dict's address (where it has one), the abstract heap behind it -/
abbrev XK := Value → Option Addr → Hp → Prop
abbrev St := List (Option V)
abbrev VK := V → Hp → Prop
/-- an expression's reading; a test's; an argument list's -/
abbrev TE := St → Hp → VK → Prop
abbrev TT := St → Hp → (Bool → Hp → Prop) → Prop
abbrev TA := St → Hp → (List V → Hp → Prop) → Prop
/-- what is wanted behind a statement -/
structure Ends where
  nx : St → Hp → Prop
  rt : VK
  bk : St → Hp → Prop := fun _ _ => False
  ct : St → Hp → Prop := fun _ _ => False
abbrev TS := Ends → St → Hp → Prop

def EP (X : Cx) (pins : List (Addr × Obj)) (σ : St) (Q : VK) (u : Value) (s' : Shared) : Prop := ∃ v H', Inv X pins σ H' s' ∧ RelV v u ∧ Q v H'
def TP (X : Cx) (pins : List (Addr × Obj)) (σ : St) (Q : Bool → Hp → Prop) (b : Bool) (s' : Shared) : Prop := ∃ H', Inv X pins σ H' s' ∧ Q b H'
def AP (X : Cx) (pins : List (Addr × Obj)) (σ : St) (Q : List V → Hp → Prop) (us : List Value) (s' : Shared) : Prop := ∃ vs H', Inv X pins σ H' s' ∧ Vals vs us ∧ Q vs H'
def SP (X : Cx) (pins : List (Addr × Obj)) (D : Ends) (f : Flow) (s' : Shared) : Prop :=
  match f with
  | .next => ∃ σ' H', Inv X pins σ' H' s' ∧ D.nx σ' H'
  | .brk => ∃ σ' H', Inv X pins σ' H' s' ∧ D.bk σ' H'
  | .cont => ∃ σ' H', Inv X pins σ' H' s' ∧ D.ct σ' H'
  | .ret u => ∃ v σ' H', Inv X pins σ' H' s' ∧ RelV v u ∧ D.rt v H'

def PE (X : Cx) (e : Expr) (t : TE) : Prop :=
  ∀ (pins : List (Addr × Obj)) (s : Shared) (σ : St) (H : Hp) (Q : VK), Inv X pins σ H s → t σ H Q → wpAny (model X.prog X.w) X.A (eval e X.env) (EP X pins σ Q) X.xe s
def PT (X : Cx) (e : Expr) (t : TT) : Prop :=
  ∀ (pins : List (Addr × Obj)) (s : Shared) (σ : St) (H : Hp) (Q : Bool → Hp → Prop), Inv X pins σ H s → t σ H Q → wpAny (model X.prog X.w) X.A (isTrue e X.env (eval e X.env)) (TP X pins σ Q) X.xe s
/-- a test whatever its 'whole' is (and, or) -/
def PW (X : Cx) (e : Expr) (t : TT) : Prop :=
  ∀ (whole : Sem Value) (pins : List (Addr × Obj)) (s : Shared) (σ : St) (H : Hp) (Q : Bool → Hp → Prop), Inv X pins σ H s → t σ H Q → wpAny (model X.prog X.w) X.A (isTrue e X.env whole) (TP X pins σ Q) X.xe s
theorem PW.pt {X : Cx} {e : Expr} {t : TT} (h : PW X e t) : PT X e t := h _
/-- an argument list (no star), from the left -/
def PA (X : Cx) (es : List Expr) (t : TA) : Prop :=
  ∀ (pos : Pos) (pins : List (Addr × Obj)) (s : Shared) (σ : St) (H : Hp) (Q : List V → Hp → Prop), Inv X pins σ H s → t σ H Q → wpAny (model X.prog X.w) X.A (spliced (backTo pos (starEach es X.env))) (AP X pins σ Q) X.xe s
def PS (X : Cx) (st : Stmt) (t : TS) : Prop :=
  ∀ (pins : List (Addr × Obj)) (s : Shared) (σ : St) (H : Hp) (D : Ends), Inv X pins σ H s → t D σ H → wpAny (model X.prog X.w) X.A (exec st X.env) (SP X pins D) X.xe s
def PSs (X : Cx) (st : List Stmt) (t : TS) : Prop :=
  ∀ (pins : List (Addr × Obj)) (s : Shared) (σ : St) (H : Hp) (D : Ends), Inv X pins σ H s → t D σ H → wpAny (model X.prog X.w) X.A (execs st X.env) (SP X pins D) X.xe s
/-- weaken the end -/
theorem thn {α : Type} {t : Sem α} {Q Q' : α → Shared → Prop} {M : Model} {A : Around} {E : Value → Shared → Prop} {s : Shared} (h : wpAny M A t Q E s) (hQ : ∀ a s, Q a s → Q' a s) : wpAny M A t Q' E s := wpAny_mono h hQ fun _ _ x => x
end L2

namespace L2
open PySem PySem.Spec PyProof.Rows
section
variable {X : Cx}


/-! ### names and constants -/
def tVar (i : Nat) : TE := fun σ H Q => ∃ v, σ[i]? = some (some v) ∧ Q v H
def tC (v : V) : TE := fun _ H Q => Q v H
theorem pe_var {i : Nat} {x : Str} {pos : Pos} (hN : X.N[i]? = some x) (hv : Vis X.env.scope x) (hd : (x == ("__debug__" : Str)) = false := by decide) (hcd : (x == ("__classdict__" : Str)) = false := by decide) : PE X (.Name x pos) (tVar i) := by
  intro pins s σ H Q I h
  obtain ⟨v, e, h⟩ := h
  obtain ⟨m, hn, hl⟩ := I.loc
  obtain ⟨u, r, l⟩ := hl i x v hN e hv
  have fin : EP X pins σ Q u s := ⟨v, H, I, r, h⟩
  rcases l with ⟨hk, hm⟩ | ⟨hk, c, hc, hcell⟩
  · exact wpAny_Name (wpAny_loadName_local I.ok.kind hk hn hm fin) hd
  · rcases hk with hk | hk
    · exact wpAny_Name (wpAny_loadName_cell I.ok.kind hk hc hcell fin) hd
    · exact wpAny_Name (wpAny_loadName_free I.ok.kind hk hc hcell fin hcd) hd
theorem pe_int {i j pos} : PE X (.Constant (.int i) j pos) (tC (.int i)) := fun _ _ _ H _ I h => wpAny_Constant_int ⟨.int i, H, I.tok _, ⟨_, rfl⟩, h⟩
theorem pe_bl {b j pos} : PE X (.Constant (.bool b) j pos) (tC (.bl b)) := fun _ _ _ H _ I h => Constant_bool ⟨.bl b, H, I, rfl, h⟩
theorem pe_non {j pos} : PE X (.Constant .none j pos) (tC .non) := fun _ _ _ H _ I h => Constant_none ⟨.non, H, I, rfl, h⟩
theorem pe_str {x j pos} : PE X (.Constant (.str x) j pos) (tC (.str x)) := fun _ _ _ H _ I h => Calls.Constant_str ⟨.str x, H, I.tok _, ⟨_, rfl⟩, h⟩

/-- a global name of the def -/
def Gl (X : Cx) (x : Str) : Prop := X.env.kindOf x = some .globalImplicit
theorem ld_glob {E : Value → Shared → Prop} {pins : List (Addr × Obj)} {s : Shared} {σ : St} {H : Hp} {x : Str} {u : Value} {pos : Pos} {Q : Value → Shared → Prop} (I : Inv X pins σ H s) (hg : Gl X x) (hm : X.mg x = some u) (h : Q u s)
    (hd : (x == ("__debug__" : Str)) = false := by decide) : wpAny (model X.prog X.w) X.A (eval (.Name x pos) X.env) Q E s :=
  Calls.Name_function_global I.ok.kind hg (Calls.loadGlobal_global (by rw [I.ok.glob]; exact I.mod.glob.keeps I.bk) hm h) hd
theorem ld_blt {E : Value → Shared → Prop} {pins : List (Addr × Obj)} {s : Shared} {σ : St} {H : Hp} {x : Str} {u : Value} {pos : Pos} {Q : Value → Shared → Prop} (I : Inv X pins σ H s) (hg : Gl X x) (hm : X.mg x = none) (hv : bootBuiltins x = some u) (h : Q u s)
    (hn : x ≠ "__name__" := by decide) (hd : (x == ("__debug__" : Str)) = false := by decide) : wpAny (model X.prog X.w) X.A (eval (.Name x pos) X.env) Q E s := by
  obtain ⟨mb, h1, h2⟩ := I.mod.blt
  exact Calls.Name_function_global I.ok.kind hg (Calls.loadGlobal_builtin (by rw [I.ok.glob]; exact I.mod.glob.keeps I.bk) hm (by rw [I.ok.blt]; exact h1.keeps I.bk) ((h2 x hn).trans hv) h) hd
/-- a module's constant, a class, a function, as a value -/
theorem pe_glob {x : Str} {v : V} {u : Value} {pos : Pos} (hg : Gl X x) (hm : X.mg x = some u) (r : RelV v u) (hd : (x == ("__debug__" : Str)) = false := by decide) : PE X (.Name x pos) (tC v) :=
  fun _ _ _ H _ I h => ld_glob I hg hm ⟨v, H, I, r, h⟩ hd
theorem pe_bltn {x : Str} {v : V} {u : Value} {pos : Pos} (hg : Gl X x) (hm : X.mg x = none) (hv : bootBuiltins x = some u) (r : RelV v u) (hn : x ≠ "__name__" := by decide) (hd : (x == ("__debug__" : Str)) = false := by decide) : PE X (.Name x pos) (tC v) :=
  fun _ _ _ H _ I h => ld_blt I hg hm hv ⟨v, H, I, r, h⟩ hn hd

/-! ### arithmetic -/
variable {a b : Expr} {ta tb : TE} {pos : Pos}

/-! ### comparisons -/
def PC (X : Cx) (op : CmpOp) (a b : Expr) (t : TE) : Prop :=
  ∀ (pins : List (Addr × Obj)) (s : Shared) (σ : St) (H : Hp) (Q : VK), Inv X pins σ H s → t σ H Q →
    wpAny (model X.prog X.w) X.A (eval a X.env) (fun v s₁ => wpAny (model X.prog X.w) X.A (eval b X.env) (fun u s₂ => wpAny (model X.prog X.w) X.A (compareOp op v u) (EP X pins σ Q) X.xe s₂) X.xe s₁) X.xe s
theorem nobehind (b : Expr) {op : CmpOp} (h : op ≠ .In) (h2 : op ≠ .NotIn) : behindInMarks op b = false := by
  have e1 : (op == CmpOp.In) = false := by cases op <;> first | rfl | exact absurd rfl h
  have e2 : (op == CmpOp.NotIn) = false := by cases op <;> first | rfl | exact absurd rfl h2
  cases b <;> simp [behindInMarks, e1, e2]
/-- a comparison as a value, as a test -/
def tB (t : TE) : TT := fun σ H Q => t σ H fun x H1 => ∃ c, x = .bl c ∧ Q c H1
theorem pt_cmp {op : CmpOp} {t : TE} (h : PC X op a b t) (h1 : behindInMarks op b = false := by first | exact nobehind _ (by decide) (by decide) | rfl) : PT X (.Compare a [op] [b] pos) (tB t) := by
  intro pins s σ H Q I hw
  refine wpAny_isTrue_Compare1 (thn (h pins s σ H _ I hw) fun v s1 h1 => thn h1 fun u s2 h2 => thn h2 fun c s3 ⟨x, H1, I1, r1, q1⟩ => ?_) h1
  obtain ⟨d, rfl, q⟩ := q1
  cases r1
  exact wpAny_truthy_bool ⟨H1, I1, q⟩
/-- an expression whose value is a bool, as a test -/
theorem pt_val {e : Expr} {t : TE} (h : PE X e t) (he : ∀ whole, isTrue e X.env whole = (do let v ← whole; standAt e.pos; holding [v] (truthy v)) := by intro _; rfl) : PT X e (tB t) := by
  intro pins s σ H Q I hw
  refine isTrue_plain (thn (h pins s σ H _ I hw) fun v s1 ⟨x, H1, I1, r1, q1⟩ => ?_) (he _)
  obtain ⟨d, rfl, q⟩ := q1
  cases r1
  exact wpAny_truthy_bool ⟨H1, I1, q⟩

/-! ### and, or, not -/
variable {tA tB' : TT} {rest : List Expr}
def tAnd (t u : TT) : TT := fun σ H Q => t σ H fun c H1 => if c = true then u σ H1 Q else Q false H1
def tOr (t u : TT) : TT := fun σ H Q => t σ H fun c H1 => if c = true then Q true H1 else u σ H1 Q
def tNot (t : TT) : TT := fun σ H Q => t σ H fun c H1 => Q (!c) H1
theorem pw_and1 (ha : PT X a tA) : PW X (.BoolOp .And [a] pos) tA := by
  intro wh pins s σ H Q I h
  refine isTrue_and (thn (ha pins s σ H Q I h) fun c s1 e => ?_)
  cases c with
  | true => exact isTrue_and_nil e
  | false => exact e
theorem pw_or1 (ha : PT X a tA) : PW X (.BoolOp .Or [a] pos) tA := by
  intro wh pins s σ H Q I h
  refine isTrue_or (thn (ha pins s σ H Q I h) fun c s1 e => ?_)
  cases c with
  | false => exact isTrue_or_nil e
  | true => exact e
theorem pw_and (ha : PT X a tA) (hb : PW X (.BoolOp .And (b :: rest) pos) tB') : PW X (.BoolOp .And (a :: b :: rest) pos) (tAnd tA tB') := by
  intro wh pins s σ H Q I h
  refine isTrue_and (thn (ha pins s σ H _ I h) fun c s1 ⟨H1, I1, q1⟩ => ?_)
  cases c with
  | true => exact hb wh pins s1 σ H1 Q I1 q1
  | false => exact ⟨H1, I1, q1⟩
theorem pw_or (ha : PT X a tA) (hb : PW X (.BoolOp .Or (b :: rest) pos) tB') : PW X (.BoolOp .Or (a :: b :: rest) pos) (tOr tA tB') := by
  intro wh pins s σ H Q I h
  refine isTrue_or (thn (ha pins s σ H _ I h) fun c s1 ⟨H1, I1, q1⟩ => ?_)
  cases c with
  | true => exact ⟨H1, I1, q1⟩
  | false => exact hb wh pins s1 σ H1 Q I1 q1
theorem pt_not (ha : PT X a tA) : PT X (.UnaryOp .Not a pos) (tNot tA) := by
  intro pins s σ H Q I h
  exact isTrue_not (ha pins s σ H (fun c H1 => Q (!c) H1) I h)
/-- .. as values (bools) -/
def tAndV (ta tb : TE) : TE := fun σ H Q => ta σ H fun x H1 => ∃ c, x = .bl c ∧ if c = true then tb σ H1 Q else Q (.bl false) H1
def tNotV (ta : TE) : TE := fun σ H Q => ta σ H fun x H1 => ∃ c, x = .bl c ∧ Q (.bl (!c)) H1
theorem pe_one {op} {t : TE} (h : PE X a t) : PE X (.BoolOp op [a] pos) t := fun pins s σ H Q I hw => BoolOp_one (h pins s σ H Q I hw)
theorem pe_and (ha : PE X a ta) (hb : PE X (.BoolOp .And (b :: rest) pos) tb) : PE X (.BoolOp .And (a :: b :: rest) pos) (tAndV ta tb) := by
  intro pins s σ H Q I h
  refine BoolOp_and (thn (ha pins s σ H _ I h) fun v s1 ⟨x, H1, I1, r1, q1⟩ => ?_)
  obtain ⟨c, rfl, q1⟩ := q1
  cases r1
  refine wpAny_truthy_bool ?_
  cases c with
  | true => exact hb pins s1 σ H1 Q I1 q1
  | false => exact ⟨.bl false, H1, I1, rfl, q1⟩
theorem pe_not (ha : PE X a ta) : PE X (.UnaryOp .Not a pos) (tNotV ta) := by
  intro pins s σ H Q I h
  refine UnaryOp_ (thn (ha pins s σ H _ I h) fun v s1 ⟨x, H1, I1, r1, q1⟩ => ?_)
  obtain ⟨c, rfl, q1⟩ := q1
  cases r1
  exact not_of (wpAny_truthy_bool ⟨.bl (!c), H1, I1, rfl, q1⟩)
/-- a if t else b -/
def tIf (t : TT) (ta tb : TE) : TE := fun σ H Q => t σ H fun c H1 => if c = true then ta σ H1 Q else tb σ H1 Q
theorem pe_ifExp {c : Expr} (hc : PT X c tA) (ha : PE X a ta) (hb : PE X b tb) : PE X (.IfExp c a b pos) (tIf tA ta tb) := by
  intro pins s σ H Q I h
  refine wpAny_IfExp (thn (hc pins s σ H _ I h) fun d s1 ⟨H1, I1, q1⟩ => ?_)
  cases d with
  | true => exact ha pins s1 σ H1 Q I1 q1
  | false => exact hb pins s1 σ H1 Q I1 q1
end
end L2

namespace L2
open PySem PySem.Spec PyProof.Rows

/-! ### a list, a tuple that is read: tracked, frozen, or an object of the module -/
def SqL (K : PySem.W.Frag) (H : Hp) (a : Addr) (xs : List V) : Prop :=
  Rd H a (.lst xs) ∨
    ∃ (o : Obj) (its : Array Value) (n : Nat), K.lookup a = some o ∧ o.cls = .type "list" ∧ o.dict = none ∧ o.data = .seq its n ∧ its.size ≤ sizeLine ∧ Vals xs its.toList
def SqT (K : PySem.W.Frag) (H : Hp) (a : Addr) (xs : List V) : Prop :=
  Rd H a (.tup xs) ∨
    ∃ (o : Obj) (its : Array Value) (n : Nat), K.lookup a = some o ∧ o.cls = .type "tuple" ∧ o.data = .seq its n ∧ its.size ≤ sizeLine ∧ Vals xs its.toList
def absV : Value → Option V
  | .none => some .non
  | .bool b => some (.bl b)
  | .int i _ => some (.int i)
  | .str x _ => some (.str x)
  | .bytes b _ => some (.byt b)
  | .float b _ => some (.flt b)
  | .ref a => some (.ref a)
  | .type n => some (.ty n)
  | _ => none
theorem RelV.abs {x : V} {u : Value} (r : RelV x u) : absV u = some x := by
  cases x with
  | non => cases r; rfl
  | bl _ => cases r; rfl
  | int _ => obtain ⟨t, rfl⟩ := r; rfl
  | str _ => obtain ⟨t, rfl⟩ := r; rfl
  | byt _ => obtain ⟨t, rfl⟩ := r; rfl
  | flt _ => obtain ⟨t, rfl⟩ := r; rfl
  | ref _ => cases r; rfl
  | ty _ => cases r; rfl
theorem RelV.inj {x y : V} {u : Value} (r : RelV x u) (q : RelV y u) : x = y := Option.some.inj (r.abs.symm.trans q.abs)
theorem Vals.inj : ∀ {xs ys : List V} {us : List Value}, Vals xs us → Vals ys us → xs = ys
  | _, _, _, .nil, .nil => rfl
  | _, _, _, .cons r t, .cons r' t' => by rw [r.inj r', Vals.inj t t']
section
variable {X : Cx} {pins : List (Addr × Obj)} {σ : St} {H : Hp} {s : Shared} {a : Addr} {xs ys : List V}
theorem SqL.of {K : PySem.W.Frag} (h : H a = some (.lst xs)) : SqL K H a xs := .inl (.inl h)
theorem SqT.of {K : PySem.W.Frag} (h : H a = some (.tup xs)) : SqT K H a xs := .inl (.inl h)
theorem Inv.list (I : Inv X pins σ H s) (h : SqL X.K H a xs) : ∃ its : List Value, Vals xs its ∧ PlainL s.heap a its.toArray ∧ xs.length ≤ sizeLine := by
  rcases h with h | ⟨o, its, n, hk, hc, hd, hs, hz, r⟩
  · obtain ⟨z, its, n, r, e⟩ := h.ok I.hok
    exact ⟨its, r, ⟨_, n, e, rfl, rfl, rfl⟩, z⟩
  · refine ⟨its.toList, r, ⟨o, n, I.kIn a o hk, hc, hd, by simpa using hs⟩, ?_⟩
    have e := r.length
    simp only [Array.length_toList] at e
    omega
theorem Inv.tuple (I : Inv X pins σ H s) (h : SqT X.K H a xs) : ∃ its : List Value, Vals xs its ∧ IsTup s.heap a its.toArray ∧ xs.length ≤ sizeLine := by
  rcases h with h | ⟨o, its, n, hk, hc, hs, hz, r⟩
  · obtain ⟨z, its, r, p, _⟩ := h.ok I.hok
    exact ⟨its, r, p, z⟩
  · refine ⟨its.toList, r, ⟨o, I.kIn a o hk, hc, n, by simpa using hs⟩, ?_⟩
    have e := r.length
    simp only [Array.length_toList] at e
    omega
theorem Inv.list_inj (I : Inv X pins σ H s) (h : SqL X.K H a xs) (h' : SqL X.K H a ys) : xs = ys := by
  obtain ⟨its, r, ⟨o, n, e, _, _, d⟩, _⟩ := I.list h
  obtain ⟨its', r', ⟨o', n', e', _, _, d'⟩, _⟩ := I.list h'
  rw [e] at e'; cases e'
  rw [d] at d'
  injection d' with d1 _
  have : its = its' := by simpa using congrArg Array.toList d1
  subst this
  exact r.inj r'
theorem Inv.tuple_inj (I : Inv X pins σ H s) (h : SqT X.K H a xs) (h' : SqT X.K H a ys) : xs = ys := by
  obtain ⟨its, r, ⟨o, e, _, n, d⟩, _⟩ := I.tuple h
  obtain ⟨its', r', ⟨o', e', _, n', d'⟩, _⟩ := I.tuple h'
  rw [e] at e'; cases e'
  rw [d] at d'
  injection d' with d1 _
  have : its = its' := by simpa using congrArg Array.toList d1
  subst this
  exact r.inj r'
end

/-! ### another wish about exceptions -/
abbrev Cx.wish (X : Cx) (E : Value → Shared → Prop) : Cx := { X with xe := E }
/-- no exception leaves -/
abbrev Cx.nox (X : Cx) : Cx := X.wish fun _ _ => False
theorem Cx.Ok.wish {X : Cx} (ok : X.Ok) (E : Value → Shared → Prop) : (X.wish E).Ok :=
  ⟨ok.mod, ok.kind, ok.glob, ok.blt, ok.above, ok.inj, ok.has, ok.cab, ok.hd, ok.frames, ok.stk, ok.exf, ok.bs, ok.bsz, ok.noex, ok.exfs, ok.funs, ok.frf⟩
theorem Cx.Ok.unwish {X : Cx} {E : Value → Shared → Prop} (ok : (X.wish E).Ok) : X.Ok :=
  ⟨ok.mod, ok.kind, ok.glob, ok.blt, ok.above, ok.inj, ok.has, ok.cab, ok.hd, ok.frames, ok.stk, ok.exf, ok.bs, ok.bsz, ok.noex, ok.exfs, ok.funs, ok.frf⟩
section
variable {X : Cx} {pins : List (Addr × Obj)} {σ : St} {H : Hp} {s : Shared} {E : Value → Shared → Prop}
theorem Inv.wish (I : Inv X pins σ H s) (E : Value → Shared → Prop) : Inv (X.wish E) pins σ H s := ⟨I.ok.wish E, I.os, I.bare, I.base, I.loc, I.cell, I.free, I.freeC, I.pin, I.hok, I.len⟩
theorem Inv.unwish (I : Inv (X.wish E) pins σ H s) : Inv X pins σ H s := ⟨I.ok.unwish, I.os, I.bare, I.base, I.loc, I.cell, I.free, I.freeC, I.pin, I.hok, I.len⟩
theorem SP.unwish {D : Ends} {f : Flow} {s' : Shared} (h : SP (X.wish E) pins D f s') : SP X pins D f s' := by
  cases f with
  | next => obtain ⟨σ', H', I, q⟩ := h; exact ⟨σ', H', I.unwish, q⟩
  | brk => obtain ⟨σ', H', I, q⟩ := h; exact ⟨σ', H', I.unwish, q⟩
  | cont => obtain ⟨σ', H', I, q⟩ := h; exact ⟨σ', H', I.unwish, q⟩
  | ret u => obtain ⟨v, σ', H', I, r, q⟩ := h; exact ⟨v, σ', H', I.unwish, r, q⟩
theorem PE.nox {e : Expr} {t : TE} (h : PE X.nox e t) : PE X e t := fun pins s σ H Q I hw =>
  wpAny_mono (h pins s σ H Q (I.wish _) hw) (fun _ _ ⟨v, H', I', r, q⟩ => ⟨v, H', I'.unwish, r, q⟩) fun _ _ z => False.elim z
theorem PT.nox {e : Expr} {t : TT} (h : PT X.nox e t) : PT X e t := fun pins s σ H Q I hw =>
  wpAny_mono (h pins s σ H Q (I.wish _) hw) (fun _ _ ⟨H', I', q⟩ => ⟨H', I'.unwish, q⟩) fun _ _ z => False.elim z
theorem PSs.nox {st : List Stmt} {t : TS} (h : PSs X.nox st t) : PSs X st t := fun pins s σ H D I hw =>
  wpAny_mono (h pins s σ H D (I.wish _) hw) (fun _ _ q => q.unwish) fun _ _ z => False.elim z
end

/-! ### blocks and small statements -/
section
variable {X : Cx} {st : Stmt} {rest : List Stmt} {t u : TS} {e : Expr} {te : TE} {pos : Pos}
def tNext : TS := fun D σ H => D.nx σ H
def tSeq (t u : TS) : TS := fun D σ H => t { D with nx := u D } σ H
theorem pss_nil : PSs X [] tNext := fun _ _ σ H _ I h => wpAny_execs_nil ⟨σ, H, I, h⟩
theorem pss_cons (h1 : PS X st t) (h2 : PSs X rest u) : PSs X (st :: rest) (tSeq t u) := by
  intro pins s σ H D I h
  refine wpAny_execs_cons (thn (h1 pins s σ H { D with nx := u D } I h) fun f s1 q => ?_)
  cases f with
  | next =>
    obtain ⟨σ', H', I', q⟩ := q
    exact h2 pins s1 σ' H' D I' q
  | ret v => exact q
  | brk => exact q
  | cont => exact q
theorem pss_one (h1 : PS X st t) : PSs X [st] t := by
  intro pins s σ H D I h
  refine wpAny_execs_cons (thn (h1 pins s σ H D I h) fun f s1 q => ?_)
  cases f with
  | next => exact wpAny_execs_nil q
  | ret v => exact q
  | brk => exact q
  | cont => exact q
/-- in a def's body nothing is shown -/
theorem Inv.quiet {pins : List (Addr × Obj)} {σ : St} {H : Hp} {s : Shared} (I : Inv X pins σ H s) : interactive X.env = false := by simp [interactive, I.ok.kind]
/-- an expression whose value is dropped -/
def tDrop (te : TE) : TS := fun D σ H => te σ H fun _ H1 => D.nx σ H1
theorem ps_expr (he : PE X e te) (hs : swapsWith e none pos.line X.env = pure false := by rfl) : PS X (.Expr e pos) (tDrop te) := by
  intro pins s σ H D I h
  exact wpAny_Expr_any (thn (he pins s σ H _ I h) fun v s1 ⟨x, H1, I1, r1, q1⟩ => ⟨σ, H1, I1, q1⟩) I.quiet hs
def tRet (te : TE) : TS := fun D σ H => te σ H D.rt
theorem ps_ret (he : PE X e te) : PS X (.Return (some e) pos) (tRet te) := by
  intro pins s σ H D I h
  exact wpAny_Return_some (thn (he pins s σ H _ I h) fun v s1 ⟨x, H1, I1, r1, q1⟩ => ⟨x, σ, H1, I1, r1, q1⟩)
def tIfS (c : TT) (t u : TS) : TS := fun D σ H => c σ H fun b H1 => if b = true then t D σ H1 else u D σ H1
theorem ps_if {c : Expr} {a b : List Stmt} {tc : TT} (hc : PT X c tc) (ha : PSs X a t) (hb : PSs X b u) : PS X (.If c a b pos) (tIfS tc t u) := by
  intro pins s σ H D I h
  refine wpAny_If (thn (hc pins s σ H _ I h) fun d s1 ⟨H1, I1, q1⟩ => ?_)
  cases d with
  | true => exact ha pins s1 σ H1 D I1 q1
  | false => exact hb pins s1 σ H1 D I1 q1
/-- code that the proof never comes to -/
def tNever : TS := fun _ _ _ => False
theorem pss_never {sts : List Stmt} : PSs X sts tNever := fun _ _ _ _ _ _ h => h.elim
end

/-! ### targets -/
abbrev TG := V → St → Hp → (St → Hp → Prop) → Prop
abbrev TGs := List V → St → Hp → (St → Hp → Prop) → Prop
def PG (X : Cx) (target : Expr) (t : TG) : Prop :=
  ∀ (pins : List (Addr × Obj)) (s : Shared) (σ : St) (H : Hp) (v : V) (u : Value) (Q : St → Hp → Prop), Inv X pins σ H s → RelV v u → t v σ H Q →
    wpAny (model X.prog X.w) X.A (assign target X.env u) (fun _ s' => ∃ σ' H', Inv X pins σ' H' s' ∧ Q σ' H') X.xe s
/-- several targets, one after another -/
def PGs (X : Cx) (ts : List Expr) (t : TGs) : Prop :=
  ∀ (pins : List (Addr × Obj)) (s : Shared) (σ : St) (H : Hp) (vs : List V) (us : List Value) (Q : St → Hp → Prop), Inv X pins σ H s → Vals vs us → t vs σ H Q →
    wpAny (model X.prog X.w) X.A (assignInOrder ((assignEach ts X.env).map (·.2)) us) (fun _ s' => ∃ σ' H', Inv X pins σ' H' s' ∧ Q σ' H') X.xe s
/-- o[i] = v, by values -/
abbrev TSet := V → V → V → Hp → (Hp → Prop) → Prop
def PSet (X : Cx) (t : TSet) : Prop :=
  ∀ (pins : List (Addr × Obj)) (s : Shared) (σ : St) (H : Hp) (o i v : V) (ov iv u : Value) (Q : Hp → Prop), Inv X pins σ H s → RelV o ov → RelV i iv → RelV v u → t o i v H Q →
    wpAny (model X.prog X.w) X.A (setItem ov iv u) (fun _ s' => ∃ H', Inv X pins σ H' s' ∧ Q H') X.xe s
/-- a op= b, by values -/
abbrev TIp := V → V → Hp → VK → Prop
def PIp (X : Cx) (op : Operator) (t : TIp) : Prop :=
  ∀ (pins : List (Addr × Obj)) (s : Shared) (σ : St) (H : Hp) (x y : V) (v u : Value) (Q : VK), Inv X pins σ H s → RelV x v → RelV y u → t x y H Q →
    wpAny (model X.prog X.w) X.A (inplaceOp op v u) (EP X pins σ Q) X.xe s
section
variable {X : Cx} {pos : Pos}
def gName (i : Nat) : TG := fun v σ H Q => Q (σ.set i (some v)) H
theorem pg_name {i : Nat} {x : Str} (hN : X.N.Nodup) (hi : X.N[i]? = some x) (hx : Loc X.env.scope x) (hf : X.fn x = true ∨ X.env.scope.names.lookup x = some .local := by first | exact .inl rfl | exact .inr rfl | assumption) : PG X (.Name x pos) (gName i) := by
  intro pins s σ H v u Q I r h
  exact wpAny_assign_Name (store_ok I hN hi hx r (fun s' I' => ⟨_, H, I', h⟩) hf)
def gNil : TGs := fun vs σ H Q => vs = [] ∧ Q σ H
def gCons (t : TG) (u : TGs) : TGs := fun vs σ H Q => ∃ v r, vs = v :: r ∧ t v σ H fun σ' H' => u r σ' H' Q
theorem pgs_nil : PGs X [] gNil := by
  intro pins s σ H vs us Q I r h
  obtain ⟨e, h⟩ := h
  subst e
  cases r
  exact assignInOrder_nil ⟨σ, H, I, h⟩
theorem pgs_cons {e : Expr} {es : List Expr} {t : TG} {u : TGs} (h1 : PG X e t) (h2 : PGs X es u)
    (hs : (assignEach (e :: es) X.env).map (·.2) = assign e X.env :: (assignEach es X.env).map (·.2) := by rfl) : PGs X (e :: es) (gCons t u) := by
  intro pins s σ H vs us Q I r h
  obtain ⟨v, vr, e1, h⟩ := h
  subst e1
  cases r with
  | cons r rr =>
    rw [hs]
    refine assignInOrder_cons (thn (h1 pins s σ H _ _ _ I r h) fun _ s1 ⟨σ1, H1, I1, q1⟩ => ?_)
    exact h2 pins s1 σ1 H1 _ _ Q I1 rr q1
/-- (a, b, ..) = a tuple of that length -/
def gTup (K : PySem.W.Frag) (n : Nat) (t : TGs) : TG := fun v σ H Q => ∃ a xs, v = .ref a ∧ SqT K H a xs ∧ xs.length = n ∧ t xs σ H Q
theorem pg_tup {es : List Expr} {k : Nat} {t : TGs} {n : Nat} (hc : X.calm = true) (h : PGs X es t)
    (hn : (assignEach es X.env).length = n := by rfl) (hst : (assignEach es X.env).findIdx? (·.1) = none := by rfl) : PG X (.Tuple es k pos) (gTup X.K n t) := by
  intro pins s σ H v u Q I r hw
  obtain ⟨a, xs, e1, hq, hl, hw⟩ := hw
  subst e1
  cases r
  obtain ⟨its, rv, ht, hz⟩ := I.tuple hq
  refine assign_Tuple_tuple (I.ok.hd hc) ht (by simp [hn, ← hl, rv.length]) hst fun h' hx => ?_
  have I1 : Inv X pins σ H { s with heap := h' } := I.kept (t' := s.toks) fun b o e => hx b o (Nat.ne_of_lt (Heap.lt_size e)) e
  exact h pins _ σ H xs _ Q I1 (by simpa using rv) hw
/-- o[i] = .. -/
def gSub (to ti : TE) (t : TSet) : TG := fun v σ H Q => to σ H fun o H1 => ti σ H1 fun i H2 => t o i v H2 fun H3 => Q σ H3
theorem pg_sub {o i : Expr} {to ti : TE} {t : TSet} (ho : PE X o to) (hi : PE X i ti) (hs : PSet X t)
    (ha : ∀ v, assign (.Subscript o i pos) X.env v = (do
      let ov ← holding [v] (eval o X.env)
      let iv ← holding [v, ov] (eval i X.env)
      standAt pos
      holding [v, ov, iv] (setItem ov iv v)
      release [v, ov, iv] []) := by intro _; rfl) : PG X (.Subscript o i pos) (gSub to ti t) := by
  intro pins s σ H v u Q I r h
  rw [ha]
  refine wpAny_bind (wpAny_holding (thn (ho pins s σ H _ I h) fun ov s1 ⟨x, H1, I1, r1, q1⟩ => ?_))
  refine wpAny_bind (wpAny_holding (thn (hi pins s1 σ H1 _ I1 q1) fun iv s2 ⟨y, H2, I2, r2, q2⟩ => ?_))
  refine wpAny_bind (wpAny_standAt (wpAny_bind (wpAny_holding (thn (hs pins s2 σ H2 x y v ov iv u _ I2 r1 r2 r q2) fun _ s3 ⟨H3, I3, q3⟩ => ?_))))
  exact wpAny_release ⟨σ, H3, I3, q3⟩
/-- target = value -/
def tAsg (te : TE) (g : TG) : TS := fun D σ H => te σ H fun x H1 => g x σ H1 D.nx
theorem ps_asg {tg e : Expr} {te : TE} {g : TG} (he : PE X e te) (hg : PG X tg g) (hs : swapsWithSole [tg] e pos.line X.env = pure false := by rfl) (hw : swappedStores [tg] e X.env = pure none := by rfl)
    (h1 : (assignEach [tg] X.env).map (·.2) = [assign tg X.env] := by rfl) : PS X (.Assign [tg] e pos) (tAsg te g) := by
  intro pins s σ H D I h
  refine wpAny_Assign_stores (thn (he pins s σ H _ I h) fun v s1 ⟨x, H1, I1, r1, q1⟩ => ?_) hs hw
  rw [h1]
  exact thn (hg pins s1 σ H1 x v _ I1 r1 q1) fun _ s2 q => q
/-- name = value -/
theorem ps_set {i : Nat} {x : Str} {e : Expr} {te : TE} {pos' : Pos} (hN : X.N.Nodup) (hi : X.N[i]? = some x) (hx : Loc X.env.scope x) (he : PE X e te) (hs : swapsWith e (some (.Name x pos')) pos.line X.env = pure false := by rfl) (hf : X.fn x = true ∨ X.env.scope.names.lookup x = some .local := by first | exact .inl rfl | exact .inr rfl | assumption) :
    PS X (.Assign [.Name x pos'] e pos) (tAsg te (gName i)) := by
  intro pins s σ H D I h
  refine wpAny_Assign_Name (thn (he pins s σ H _ I h) fun v s1 ⟨y, H1, I1, r1, q1⟩ => ?_) hs
  exact store_ok I1 hN hi hx r1 (fun s2 I2 => ⟨_, H1, I2, q1⟩) hf
/-- a, b = x, y with plain local names: stored from the right; the pair itself is not tracked (the opening rows as in PyProof/Rows/TupAssign.lean:23) -/
def tPar (i j : Nat) (ta : TA) : TS := fun D σ H => ta σ H fun vs H1 => ∃ v w, vs = [v, w] ∧ D.nx ((σ.set i (some v)).set j (some w)) H1
theorem ps_par {i j : Nat} {x y : Str} {a b : Expr} {ta : TA} {px py pt : Pos} {kt k2 pt2} (hc : X.calm = true) (hN : X.N.Nodup) (hi : X.N[i]? = some x) (hj : X.N[j]? = some y) (hij : i ≠ j)
    (hx : X.env.scope.names.lookup x = some .local) (hy : X.env.scope.names.lookup y = some .local) (ha : PA X [a, b] ta)
    (hw : swappedStores [.Tuple [.Name x px, .Name y py] kt pt] (.Tuple [a, b] k2 pt2) X.env = pure (some [x, y]))
    (hs : swapsWithSole [.Tuple [.Name x px, .Name y py] kt pt] (.Tuple [a, b] k2 pt2) pos.line X.env = pure false := by rfl) :
    PS X (.Assign [.Tuple [.Name x px, .Name y py] kt pt] (.Tuple [a, b] k2 pt2) pos) (tPar i j ta) := by
  intro pins s σ H D I h
  rw [exec_Assign_arm]
  refine wpAny_bind (wpAny_standAt ?_)
  rw [hs]
  refine wpAny_bind (wpAny_pure ?_)
  rw [if_neg (by decide)]
  refine wpAny_bind (Tuple_ (thn (ha _ pins s σ H _ I h) fun us s1 ⟨vs, H1, I1, r1, q1⟩ => ?_))
  obtain ⟨v, w, e1, q1⟩ := q1
  subst e1
  obtain ⟨u1, u2, rfl, rv, rw'⟩ : ∃ u1 u2, us = [u1, u2] ∧ RelV v u1 ∧ RelV w u2 := by
    cases r1 with
    | cons p q =>
      cases q with
      | cons p' q' =>
        cases q'
        exact ⟨_, _, rfl, p, p'⟩
  refine wpAny_newObj_type ?_ (by show 2 ≤ sizeLine; decide)
  have I2 : Inv X pins σ H1 { s1 with heap := s1.heap.push { cls := .type "tuple", data := .seq [u1, u2].toArray } } := I1.kept (t' := s1.toks) fun b o e => Heap.get?_push_of_some _ e
  rw [hw]
  refine wpAny_bind (wpAny_pure ?_)
  show wpAny (model X.prog X.w) X.A (do rule "assign.swapped-stores"; let items ← unpackItems (.ref s1.heap.objs.size) 2 none; assignInOrder [fun v => bindName X.env y v, fun v => bindName X.env x v] items.reverse; pure Flow.next) _ _ _
  refine wpAny_bind (wpAny_rule (wpAny_bind (unpackItems_tuple (items := #[u1, u2]) (I.ok.hd hc) (IsTup.new s1.heap _) fun h' hx' => ?_)))
  have I3 := I2.kept (h' := h') (t' := s1.toks) fun b o e => hx' b o (Nat.ne_of_lt (Heap.lt_size e)) e
  show wpAny _ _ (assignInOrder [fun v => bindName X.env y v, fun v => bindName X.env x v] [u2, u1] >>= fun _ => pure Flow.next) _ _ _
  refine wpAny_bind (assignInOrder_cons (wpAny_bindName (store_ok I3 hN hj (.inl hy) rw' (fun s2 I4 => ?_) (.inr hy))))
  refine assignInOrder_cons (wpAny_bindName (store_ok I4 hN hi (.inl hx) rv (fun s3 I5 => assignInOrder_nil (wpAny_pure ?_)) (.inr hx)))
  rw [List.set_comm _ _ (Ne.symm hij)] at I5
  exact ⟨_, H1, I5, q1⟩
/-- name op= e -/
def tAug (i : Nat) (te : TE) (ti : TIp) : TS := fun D σ H => ∃ x, σ[i]? = some (some x) ∧ te σ H fun y H1 => ti x y H1 fun z H2 => D.nx (σ.set i (some z)) H2
theorem ps_aug {i : Nat} {x : Str} {e : Expr} {te : TE} {op : Operator} {ti : TIp} {pos' : Pos} (hN : X.N.Nodup) (hi : X.N[i]? = some x) (hx : Loc X.env.scope x) (he : PE X e te) (ho : PIp X op ti) (hf : X.fn x = true ∨ X.env.scope.names.lookup x = some .local := by first | exact .inl rfl | exact .inr rfl | assumption) :
    PS X (.AugAssign (.Name x pos') op e pos) (tAug i te ti) := by
  intro pins s σ H D I h
  obtain ⟨v, e1, h⟩ := h
  obtain ⟨m, hn, hl⟩ := I.loc
  have vis : Vis X.env.scope x := by rcases hx with k | k; exact .inl k; exact .inr (.inl k)
  obtain ⟨u, r, l⟩ := hl i x v hi e1 vis
  refine wpAny_AugAssign_Name ?_
  have go : wpAny (model X.prog X.w) X.A (eval e X.env) (fun w s₂ => wpAny (model X.prog X.w) X.A (inplaceOp op u w) (fun r s₃ => wpAny (model X.prog X.w) X.A (storeName X.env x r) (fun _ => SP X pins D .next) X.xe s₃) X.xe s₂) X.xe s := by
    refine thn (he pins s σ H _ I h) fun w s1 ⟨y, H1, I1, r1, q1⟩ => ?_
    refine thn (ho pins s1 σ H1 v y u w _ I1 r r1 q1) fun z s2 ⟨zv, H2, I2, r2, q2⟩ => ?_
    exact store_ok I2 hN hi hx r2 (fun s3 I3 => ⟨_, H2, I3, q2⟩) hf
  rcases l with ⟨hk, hm⟩ | ⟨hk, c, hc, hcell⟩
  · exact wpAny_loadName_local I.ok.kind hk hn hm go
  · rcases hk with hk | hk
    · exact wpAny_loadName_cell I.ok.kind hk hc hcell go
    · rcases hx with k | k
      · have : X.env.scope.names.lookup x = some .free := hk
        rw [k] at this; cases this
      · have : X.env.scope.names.lookup x = some .free := hk
        rw [k] at this; cases this
/-- ints -/
def ipI (f : Int → Int → Int) : TIp := fun x y H Q => ∃ i j, x = .int i ∧ y = .int j ∧ Q (.int (f i j)) H
theorem ip_sub : PIp X .Sub (ipI fun i j => i - j) := by
  intro pins s σ H x y v u Q I r1 r2 h
  obtain ⟨i, j, e1, e2, q⟩ := h
  subst e1; subst e2
  obtain ⟨t, rfl⟩ := r1
  obtain ⟨t', rfl⟩ := r2
  exact isub_int ⟨.int _, H, I.tok _, ⟨_, rfl⟩, q⟩
end

/-! ### while -/
section
variable {X : Cx} {pos : Pos}
/-- the invariant W with its measure -/
def tWhile (c : TT) (tb : TS) : TS := fun D σ H => ∃ W : Nat → St → Hp → Prop, (∃ m, W m σ H) ∧ ∀ m σ H, W m σ H →
  c σ H fun b H1 => if b = true then ∃ N : St → Hp → Prop, (∀ σ' H', N σ' H' → ∃ m', m' < m ∧ W m' σ' H') ∧ tb { D with nx := N, ct := N, bk := D.nx } σ H1 else D.nx σ H1
theorem ps_while {c : Expr} {body : List Stmt} {tc : TT} {tb : TS} (hp : PassesOwn (model X.prog X.w) X.A X.env X.xe) (hc : PT X c tc) (hb : PSs X body tb) : PS X (.While c body [] pos) (tWhile tc tb) := by
  intro pins s σ H D I h
  obtain ⟨W, ⟨m0, w0⟩, turn⟩ := h
  refine wpAny_While (codeAny_whileLoop (fun n s' => ∃ σ' H', Inv X pins σ' H' s' ∧ W n σ' H') ?_ m0 ⟨σ, H, I, w0⟩)
  rintro n s1 ⟨σ1, H1, I1, w1⟩
  refine wpAny_passesOwn hp (thn (hc pins s1 σ1 H1 _ I1 (turn n σ1 H1 w1)) fun b s2 ⟨H2, I2, q2⟩ => ?_)
  cases b with
  | true =>
    obtain ⟨N, hN, q2⟩ := q2
    rw [if_pos rfl]
    refine wpAny_passesOwn hp (thn (hb pins s2 σ1 H2 _ I2 q2) fun f s3 q3 => ?_)
    cases f with
    | next =>
      obtain ⟨σ3, H3, I3, n3⟩ := q3
      obtain ⟨m', hm, w3⟩ := hN σ3 H3 n3
      exact ⟨m', hm, σ3, H3, I3, w3⟩
    | cont =>
      obtain ⟨σ3, H3, I3, n3⟩ := q3
      obtain ⟨m', hm, w3⟩ := hN σ3 H3 n3
      exact ⟨m', hm, σ3, H3, I3, w3⟩
    | brk => exact q3
    | ret v => exact q3
  | false =>
    rw [if_neg Bool.false_ne_true]
    exact wpAny_execs_nil ⟨σ1, H2, I2, q2⟩
end

/-! ### what a loop or a comprehension walks -/
/-- at turn i: it yields x (the heap may grow), or it stops -/
structure It where
  go : Nat → Hp → Prop
  yld : Nat → Hp → V → Hp → Prop
  stop : Nat → Hp → Prop
/-- the iterator's own objects may turn: they are not the frame's, not pinned, younger than the entry (or a comprehension's own) -/
def FpOk (X : Cx) (pins : List (Addr × Obj)) (H : Hp) (b : Addr) : Prop :=
  H b = none ∧ b ≠ X.env.locals ∧ b ∉ X.fs ∧ (b ∈ X.ex ∨ X.s_0.heap.objs.size ≤ b) ∧ (∀ x c, X.env.cells.lookup x = some c → c ≠ b) ∧ ∀ p ∈ X.pn ++ pins, p.1 ≠ b
theorem Inv.fpOk {X : Cx} {pins : List (Addr × Obj)} {σ : St} {H H' : Hp} {s : Shared} {b : Addr} (I : Inv X pins σ H s) (hb : s.heap.objs.size ≤ b) (hn : H' b = none) : FpOk X pins H' b := by
  refine ⟨hn, Nat.ne_of_gt (Nat.lt_of_lt_of_le I.lt hb), I.nofs hb, .inr (Nat.le_trans I.sz hb), fun x c e z => ?_, fun p hp z => ?_⟩
  · obtain ⟨v, q⟩ := I.cell x c e
    exact absurd (Nat.lt_of_lt_of_le q.lt (by rw [z]; exact hb)) (Nat.lt_irrefl _)
  · exact absurd (Nat.lt_of_lt_of_le (Heap.lt_size (I.pin p hp).1) (by rw [z]; exact hb)) (Nat.lt_irrefl _)
structure Turn (P : Program) (w : World) (K : PySem.W.Frag) (tg : Expr) (J : It) (fp : List Addr) (it : Addr) (tn : Nat → Heap → Prop) : Prop where
  mem : it ∈ fp
  obj : ∀ i h, tn i h → ∀ b ∈ fp, ∃ o, h.get? b = some o ∧ ∀ v, o.data ≠ .cell v
  keep : ∀ i h h', tn i h → (∀ b ∈ fp, ∀ o, h.get? b = some o → h'.get? b = some o) → tn i h'
  item : ∀ (X : Cx), X.prog = P → X.w = w → X.K = K → X.calm = true → ∀ (i : Nat) (pins : List (Addr × Obj)) (s : Shared) (σ : St) (H : Hp) (E : Value → Shared → Prop), Inv X pins σ H s → (∀ b ∈ fp, FpOk X pins H b) → tn i s.heap → J.go i H →
    wpAny (model P w) X.A (pyNext (.ref it)) (fun r s1 => ∃ u, r = some u ∧
      wpAny (model P w) X.A (letOwnedTupleGo tg (.ref it) u) (fun _ s2 => ∃ x H', Inv X pins σ H' s2 ∧ RelV x u ∧ J.yld i H x H' ∧ tn (i + 1) s2.heap ∧ ∀ b ∈ fp, H' b = none) E s1) E s
  done : ∀ (X : Cx), X.prog = P → X.w = w → X.K = K → X.calm = true → ∀ (i : Nat) (pins : List (Addr × Obj)) (s : Shared) (σ : St) (H : Hp) (E : Value → Shared → Prop), Inv X pins σ H s → (∀ b ∈ fp, FpOk X pins H b) → tn i s.heap → J.stop i H →
    wpAny (model P w) X.A (pyNext (.ref it)) (fun r s1 => r = none ∧ Inv X pins σ H s1) E s
  self : ∀ (A : Around) (i : Nat) (s : Shared) (Q : Value → Shared → Prop) (E : Value → Shared → Prop), tn i s.heap → Q (.ref it) s → wpAny (model P w) A (pyIter (.ref it)) Q E s
abbrev TI := St → Hp → (It → Hp → Prop) → Prop
/-- an iterator has come -/
def PIE (X : Cx) (pins : List (Addr × Obj)) (σ : St) (tg : Expr) (R : It → Hp → Prop) (itv : Value) (s2 : Shared) : Prop :=
  ∃ (it : Addr) (fp : List Addr) (tn : Nat → Heap → Prop) (J : It) (H' : Hp), itv = .ref it ∧ Inv X pins σ H' s2 ∧ Turn X.prog X.w X.K tg J fp it tn ∧ tn 0 s2.heap ∧ (∀ b ∈ fp, FpOk X pins H' b) ∧ R J H'
def PI (X : Cx) (tg iter : Expr) (wi : TI) : Prop :=
  ∀ (pins : List (Addr × Obj)) (s : Shared) (σ : St) (H : Hp) (R : It → Hp → Prop), Inv X pins σ H s → wi σ H R →
    wpAny (model X.prog X.w) X.A (eval iter X.env) (fun v s1 => wpAny (model X.prog X.w) X.A (pyIter v) (PIE X pins σ tg R) X.xe s1) X.xe s

/-- the step ahead of the store is nothing for an iterator that keeps no tuple -/
theorem go_of {M : Model} {A : Around} {E : Value → Shared → Prop} {s : Shared} {tg : Expr} {it : Addr} {u : Value} {o : Obj} {n : String} {vs : Array Value} {Q : Unit → Shared → Prop} (ho : s.heap.get? it = some o) (hc : o.cls = .type n) (hd : o.data = .fields vs)
    (hn : ["enumerate", "zip", "dict_itemiterator", "dict_reverseitemiterator", "odict_iterator", "itertools.zip_longest", "itertools.pairwise"].contains n = false) (hQ : Q () s) : wpAny M A (letOwnedTupleGo tg (.ref it) u) Q E s := by
  unfold letOwnedTupleGo
  cases tg <;> first
    | exact wpAny_pure hQ
    | (cases u <;> first
        | exact wpAny_pure hQ
        | (refine wpAny_bind (wpAny_load ho ?_)
           rw [hc, hd]
           show wpAny M A (if (["enumerate", "zip", "dict_itemiterator", "dict_reverseitemiterator", "odict_iterator", "itertools.zip_longest", "itertools.pairwise"].contains n && vs[0]? == some (rawInt _)) = true then _ else _) Q E s
           rw [if_neg (by intro h; rw [hn, Bool.false_and] at h; cases h)]
           exact wpAny_pure hQ))

/-- the list at a, as it stands at each turn (a loop may append to it) -/
def Itl (K : PySem.W.Frag) (a : Addr) : It :=
  ⟨fun i H => ∃ xs x, SqL K H a xs ∧ xs[i]? = some x, fun i H x H' => H' = H ∧ ∀ xs, SqL K H a xs → xs[i]? = some x, fun i H => ∃ xs, SqL K H a xs ∧ xs.length ≤ i⟩
def Itt (K : PySem.W.Frag) (a : Addr) : It :=
  ⟨fun i H => ∃ xs x, SqT K H a xs ∧ xs[i]? = some x, fun i H x H' => H' = H ∧ ∀ xs, SqT K H a xs → xs[i]? = some x, fun i H => ∃ xs, SqT K H a xs ∧ xs.length ≤ i⟩
/-- lo, lo + 1, .. (n of them) -/
def Itr (lo : Int) (n : Nat) : It := ⟨fun i _ => i < n, fun i H x H' => H' = H ∧ x = .int (lo + i), fun i _ => n ≤ i⟩
theorem turn_list {P : Program} {w : World} {K : PySem.W.Frag} {tg : Expr} (a it : Addr) : Turn P w K tg (Itl K a) [it] it (fun i h => h.IsListIter it a i) where
  mem := by simp
  obj := fun i h st b hb => by
    have e : b = it := by simpa using hb
    subst e
    obtain ⟨o, e, c, d⟩ := st
    exact ⟨o, e, fun v z => by rw [d] at z; cases z⟩
  keep := fun i h h' st k => st.at fun o e => k it (by simp) o e
  item := by
    intro X hP hw hK hc i pins s σ H E I hf st hg
    subst hP hw hK
    obtain ⟨xs, x, hq, hx⟩ := hg
    obtain ⟨its, rv, p, hz⟩ := I.list hq
    obtain ⟨u, hu, ru⟩ := rv.get hx
    obtain ⟨f0, f1, f2, f3, f4, f5⟩ := hf it (by simp)
    refine wpAny_pyNext_list_item st p.isList (x := u) (by simpa using hu) fun h' st' sb => ?_
    have I1 : Inv X pins σ H { s with heap := h' } := I.turned (t' := s.toks) (fun b o hb e => (sb.2 b hb).trans e) f0 f1 f3 f4 f5
    obtain ⟨o, e, c, d⟩ := id st'
    exact ⟨u, rfl, go_of (s := { s with heap := h' }) e c d (by decide) ⟨x, H, I1, ru, ⟨rfl, fun ys hy => by rw [I.list_inj hy hq]; exact hx⟩, st', fun b hb => (hf b hb).1⟩⟩
  done := by
    intro X hP hw hK hc i pins s σ H E I hf st hg
    subst hP hw hK
    obtain ⟨xs, hq, hx⟩ := hg
    obtain ⟨its, rv, p, hz⟩ := I.list hq
    obtain ⟨f0, f1, f2, f3, f4, f5⟩ := hf it (by simp)
    have hl := rv.length
    exact wpAny_pyNext_list_end (I.ok.hd hc) st p.isList (by simp; omega) fun h' eb => ⟨rfl, I.turned (t' := s.toks) (fun b o hb e => eb b o hb e) f0 f1 f3 f4 f5⟩
  self := fun _ _ _ _ _ st h => wpAny_pyIter_listiter st h
theorem turn_tuple {P : Program} {w : World} {K : PySem.W.Frag} {tg : Expr} (a it : Addr) : Turn P w K tg (Itt K a) [it] it (fun i h => h.IsTupleIter it a i) where
  mem := by simp
  obj := fun i h st b hb => by
    have e : b = it := by simpa using hb
    subst e
    obtain ⟨o, e, c, d⟩ := st
    exact ⟨o, e, fun v z => by rw [d] at z; cases z⟩
  keep := fun i h h' st k => st.at fun o e => k it (by simp) o e
  item := by
    intro X hP hw hK hc i pins s σ H E I hf st hg
    subst hP hw hK
    obtain ⟨xs, x, hq, hx⟩ := hg
    obtain ⟨its, rv, p, hz⟩ := I.tuple hq
    obtain ⟨u, hu, ru⟩ := rv.get hx
    obtain ⟨f0, f1, f2, f3, f4, f5⟩ := hf it (by simp)
    refine wpAny_pyNext_tuple_item st (show s.heap.IsTuple a its.toArray from p) (x := u) (by simpa using hu) fun h' st' sb => ?_
    have I1 : Inv X pins σ H { s with heap := h' } := I.turned (t' := s.toks) (fun b o hb e => (sb.2 b hb).trans e) f0 f1 f3 f4 f5
    obtain ⟨o, e, c, d⟩ := id st'
    exact ⟨u, rfl, go_of (s := { s with heap := h' }) e c d (by decide) ⟨x, H, I1, ru, ⟨rfl, fun ys hy => by rw [I.tuple_inj hy hq]; exact hx⟩, st', fun b hb => (hf b hb).1⟩⟩
  done := by
    intro X hP hw hK hc i pins s σ H E I hf st hg
    subst hP hw hK
    obtain ⟨xs, hq, hx⟩ := hg
    obtain ⟨its, rv, p, hz⟩ := I.tuple hq
    obtain ⟨f0, f1, f2, f3, f4, f5⟩ := hf it (by simp)
    have hl := rv.length
    exact wpAny_pyNext_tuple_end (I.ok.hd hc) st (show s.heap.IsTuple a its.toArray from p) (by simp; omega) fun h' eb => ⟨rfl, I.turned (t' := s.toks) (fun b o hb e => eb b o hb e) f0 f1 f3 f4 f5⟩
  self := fun _ _ _ _ _ st h => wpAny_pyIter_tupleiter st h
theorem turn_range {P : Program} {w : World} {K : PySem.W.Frag} {tg : Expr} (it : Addr) (lo : Int) (n : Nat) : Turn P w K tg (Itr lo n) [it] it (fun i h => IsRangeIter h it (lo + (i : Nat) * 1) ((n : Int) - (i : Nat)) 1) where
  mem := by simp
  obj := fun i h st b hb => by
    have e : b = it := by simpa using hb
    subst e
    exact ⟨_, st, fun v z => by
      have z' : Data.fields _ = Data.cell v := z
      cases z'⟩
  keep := fun i h h' st k => k it (by simp) _ st
  item := by
    intro X hP hw hK hc i pins s σ H E I hf st hg
    subst hP hw hK
    obtain ⟨f0, f1, f2, f3, f4, f5⟩ := hf it (by simp)
    have W := Walks.range (prog := X.prog) (w := X.w) (I.ok.hd hc) it lo 1 n
    refine W.item i s _ _ hg st fun v h' tk hv st' kk => ?_
    obtain ⟨t, rfl⟩ := hv
    have I1 : Inv X pins σ H { s with heap := h', toks := tk } := I.turned (fun b o hb e => kk b o (by simpa using hb) e) f0 f1 f3 f4 f5
    refine ⟨_, rfl, go_of (s := { s with heap := h', toks := tk }) (n := "range_iterator") st' rfl rfl (by decide) ⟨.int (lo + i), H, I1, ⟨t, ?_⟩, ⟨rfl, rfl⟩, st', fun b hb => (hf b hb).1⟩⟩
    rw [Int.mul_one]
  done := by
    intro X hP hw hK hc i pins s σ H E I hf st hg
    subst hP hw hK
    obtain ⟨f0, f1, f2, f3, f4, f5⟩ := hf it (by simp)
    exact wpAny_pyNext_range_end (I.ok.hd hc) st (by have : n ≤ i := hg; omega) fun h' eb => ⟨rfl, I.turned (t' := s.toks) (fun b o hb e => eb b o hb e) f0 f1 f3 f4 f5⟩
  self := fun _ _ _ _ _ st h => wpAny_pyIter_rangeiter st h
end L2

namespace L2
open PySem PySem.Spec PyProof.Rows
section
variable {X : Cx} {tg : Expr}
def iList (K : PySem.W.Frag) (tl : TE) : TI := fun σ H R => tl σ H fun x H1 => ∃ a, x = .ref a ∧ (∃ xs, SqL K H1 a xs) ∧ R (Itl K a) H1
def iTup (K : PySem.W.Frag) (tl : TE) : TI := fun σ H R => tl σ H fun x H1 => ∃ a, x = .ref a ∧ (∃ xs, SqT K H1 a xs) ∧ R (Itt K a) H1
theorem pi_list {l : Expr} {tl : TE} (hl : PE X l tl) : PI X tg l (iList X.K tl) := by
  intro pins s σ H R I h
  refine thn (hl pins s σ H _ I h) fun v s1 ⟨x, H1, I1, r1, q1⟩ => ?_
  obtain ⟨a, e, ⟨xs, hq⟩, q⟩ := q1
  subst e
  cases r1
  obtain ⟨its, rv, p, hz⟩ := I1.list hq
  refine wpAny_pyIter_list p.isList ?_
  refine ⟨s1.heap.objs.size, [s1.heap.objs.size], _, _, H1, rfl, I1.kept (t' := s1.toks) fun b o e => Heap.get?_push_of_some _ e, turn_list a _, ⟨_, Heap.get?_push_size _ rfl, rfl, rfl⟩, fun b hb => ?_, q⟩
  have e : b = s1.heap.objs.size := by simpa using hb
  subst e
  exact I1.fpOk (Nat.le_refl _) (I1.hok.fresh (Nat.le_refl _))
theorem pi_tup {l : Expr} {tl : TE} (hl : PE X l tl) : PI X tg l (iTup X.K tl) := by
  intro pins s σ H R I h
  refine thn (hl pins s σ H _ I h) fun v s1 ⟨x, H1, I1, r1, q1⟩ => ?_
  obtain ⟨a, e, ⟨xs, hq⟩, q⟩ := q1
  subst e
  cases r1
  obtain ⟨its, rv, p, hz⟩ := I1.tuple hq
  refine wpAny_pyIter_tuple (show s1.heap.IsTuple a its.toArray from p) ?_
  refine ⟨s1.heap.objs.size, [s1.heap.objs.size], _, _, H1, rfl, I1.kept (t' := s1.toks) fun b o e => Heap.get?_push_of_some _ e, turn_tuple a _, ⟨_, Heap.get?_push_size _ rfl, rfl, rfl⟩, fun b hb => ?_, q⟩
  have e : b = s1.heap.objs.size := by simpa using hb
  subst e
  exact I1.fpOk (Nat.le_refl _) (I1.hok.fresh (Nat.le_refl _))
/-- a range object just made, walked -/
theorem range_it {pins : List (Addr × Obj)} {σ : St} {H : Hp} {s : Shared} {R : It → Hp → Prop} {E : Value → Shared → Prop} {lo hi : Int} {t u v : Tok} {tk : Nat} (I : Inv X pins σ H s) (h1 : -(2 ^ 62) ≤ lo) (h2 : lo < 2 ^ 62) (h3 : -(2 ^ 62) ≤ hi) (h4 : hi < 2 ^ 62)
    (q : R (Itr lo (hi - lo).toNat) H) : wpAny (model X.prog X.w) X.A (pyIter (.ref s.heap.objs.size)) (PIE X pins σ tg R) E { s with heap := s.heap.push { cls := .type "range", data := .fields #[.int lo t, .int hi u, .int 1 v] }, toks := tk } := by
  refine wpAny_pyIter_range (IsRange.new ..) (small_one h1 h2 h3 h4) ?_
  have I1 : Inv X pins σ H { s with heap := s.heap.push { cls := .type "range", data := .fields #[.int lo t, .int hi u, .int 1 v] }, toks := tk } := I.kept fun b o e => Heap.get?_push_of_some _ e
  refine ⟨(s.heap.push { cls := .type "range", data := .fields #[.int lo t, .int hi u, .int 1 v] }).objs.size, [(s.heap.push { cls := .type "range", data := .fields #[.int lo t, .int hi u, .int 1 v] }).objs.size], _, _, H, rfl,
    I1.kept (t' := tk) fun b o e => Heap.get?_push_of_some _ e, turn_range _ lo (hi - lo).toNat, ?_, fun b hb => ?_, q⟩
  · have e1 : lo + ((0 : Nat) : Int) * 1 = lo := by simp
    have e2 : (((hi - lo).toNat : Nat) : Int) - ((0 : Nat) : Int) = Builtin.Range.rangeSize lo hi 1 := by rw [rangeSize_one]; split <;> omega
    show IsRangeIter _ _ (lo + ((0 : Nat) : Int) * 1) ((((hi - lo).toNat : Nat) : Int) - ((0 : Nat) : Int)) 1
    rw [e1, e2]
    exact Heap.get?_push_size _ rfl
  · have e : b = (s.heap.push { cls := .type "range", data := .fields #[.int lo t, .int hi u, .int 1 v] }).objs.size := by simpa using hb
    subst e
    exact I1.fpOk (Nat.le_refl _) (I1.hok.fresh (Nat.le_refl _))
def iRng1 (ta : TA) : TI := fun σ H R => ta σ H fun vs H1 => ∃ j : Int, vs = [.int j] ∧ -(2 ^ 62) ≤ j ∧ j < 2 ^ 62 ∧ R (Itr 0 j.toNat) H1
theorem pi_range1 {a : Expr} {ta : TA} {p pos : Pos} (hg : Gl X "range") (hm : X.mg "range" = none) (ha : PA X [a] ta) (hs : starEach [a] X.env = [(false, eval a X.env)] := by rfl) : PI X tg (.Call (.Name "range" p) [a] [] pos) (iRng1 ta) := by
  intro pins s σ H R I h
  refine Call_ (ld_blt I hg hm boot_range (PyProof.Rows.callWith_type1 (thn (ha pos pins s σ H _ I h) fun us s1 ⟨vs, H1, I1, r1, q1⟩ => ?_) hs rfl))
  obtain ⟨j, e, q1, q2, q⟩ := q1
  subst e
  cases r1 with
  | cons r rr =>
    cases rr
    obtain ⟨t, rfl⟩ := r
    exact call_range_1 (range_it I1 (by omega) (by omega) q1 q2 (by simpa using q))

/-! ### for -/
/-- W: the invariant by the turn and a measure; N: what the body is to reach -/
def tFor (wi : TI) (g : TG) (tb : TS) : TS := fun D σ H => wi σ H fun J H1 => ∃ W : Nat → Nat → St → Hp → Prop, (∃ m, W 0 m σ H1) ∧ ∀ i m σ H, W i m σ H →
  (J.stop i H ∧ D.nx σ H) ∨ (J.go i H ∧ ∃ N : St → Hp → Prop, (∀ σ' H', N σ' H' → ∃ m', m' < m ∧ W (i + 1) m' σ' H') ∧ ∀ x H', J.yld i H x H' → g x σ H' fun σ2 H2 => tb { D with nx := N, ct := N, bk := D.nx } σ2 H2)
/-- the records at fp as they stand -/
def pinsAt (fp : List Addr) (h : Heap) : List (Addr × Obj) := fp.filterMap fun b => (h.get? b).map fun o => (b, o)
theorem mem_pinsAt {fp : List Addr} {h : Heap} {b : Addr} {o : Obj} (hb : b ∈ fp) (e : h.get? b = some o) : (b, o) ∈ pinsAt fp h := List.mem_filterMap.mpr ⟨b, hb, by rw [e]; rfl⟩
theorem of_pinsAt {fp : List Addr} {h : Heap} {p : Addr × Obj} (hp : p ∈ pinsAt fp h) : p.1 ∈ fp ∧ h.get? p.1 = some p.2 := by
  obtain ⟨b, hb, e⟩ := List.mem_filterMap.mp hp
  cases q : h.get? b with
  | none => rw [q] at e; cases e
  | some o =>
    rw [q] at e
    have e' : (b, o) = p := Option.some.inj e
    subst e'
    exact ⟨hb, q⟩
theorem Inv.pinned {pins : List (Addr × Obj)} {σ : St} {H : Hp} {s : Shared} {fp : List Addr} (I : Inv X pins σ H s) (hf : ∀ b ∈ fp, FpOk X pins H b) (ho : ∀ b ∈ fp, ∃ o, s.heap.get? b = some o ∧ ∀ v, o.data ≠ .cell v) : Inv X (pins ++ pinsAt fp s.heap) σ H s :=
  I.pins_of fun p hp => (List.mem_append.mp hp).elim (fun z => I.pin p (List.mem_append_right _ z)) fun z => by
    obtain ⟨hb, e⟩ := of_pinsAt z
    obtain ⟨f0, f1, f2, _⟩ := hf p.1 hb
    obtain ⟨o, e', d⟩ := ho p.1 hb
    rw [e] at e'; cases e'
    exact ⟨e, f0, f1, f2, d⟩
theorem Inv.unpinned {pins pl : List (Addr × Obj)} {σ : St} {H : Hp} {s : Shared} (I : Inv X (pins ++ pl) σ H s) : Inv X pins σ H s := I.pins_of fun p hp => I.pin p (List.mem_append_right _ (List.mem_append_left _ hp))
theorem ps_for {iter : Expr} {body : List Stmt} {wi : TI} {g : TG} {tb : TS} {pos : Pos} (hp : PassesOwn (model X.prog X.w) X.A X.env X.xe) (hc : X.calm = true) (hi : PI X tg iter wi) (hg : PG X tg g) (hb : PSs X body tb)
    (hs : ∀ x, foldedSetIterable iter X.env x = pure x := by intro _; rfl) : PS X (.For tg iter body [] pos) (tFor wi g tb) := by
  intro pins s σ H D I h
  refine wpAny_For (thn (hi pins s σ H _ I h) fun v s1 h1 => thn h1 fun itv s2 h2 => ?_) hs
  obtain ⟨it, fp, tn, J, H2, e, I2, T, st2, f2, W, ⟨m0, w0⟩, turn⟩ := h2
  subst e
  -- what stays true of the iterator's objects through the loop
  have stat : ∀ {H' : Hp}, (∀ b ∈ fp, H' b = none) → ∀ b ∈ fp, FpOk X pins H' b := fun hn b hb => ⟨hn b hb, (f2 b hb).2⟩
  refine codeAny_forLoop_any (fun n s' => ∃ i σ' H', Inv X pins σ' H' s' ∧ tn i s'.heap ∧ (∀ b ∈ fp, H' b = none) ∧ W i n σ' H') ?_ m0 ⟨0, σ, H2, I2, st2, fun b hb => (f2 b hb).1, w0⟩
  rintro n s3 ⟨i, σ3, H3, I3, st3, fr3, w3⟩
  rcases turn i n σ3 H3 w3 with ⟨stop, qn⟩ | ⟨go, N, hN, step⟩
  · refine wpAny_passesOwn hp (thn (T.done X rfl rfl rfl hc i pins s3 σ3 H3 X.xe I3 (stat fr3) st3 stop) fun r s4 ⟨hr, I4⟩ => ?_)
    subst hr
    exact wpAny_execs_nil ⟨σ3, H3, I4, qn⟩
  · refine wpAny_passesOwn hp (thn (T.item X rfl rfl rfl hc i pins s3 σ3 H3 X.xe I3 (stat fr3) st3 go) fun r s4 ⟨u, hr, h4⟩ => ?_)
    subst hr
    refine wpAny_passesOwn hp (thn h4 fun _ s5 ⟨x, H5, I5, r5, y5, st5, fr5⟩ => ?_)
    have I5' := I5.pinned (stat fr5) (T.obj _ _ st5)
    refine wpAny_passesOwn hp (thn (hg _ s5 σ3 H5 x u _ I5' r5 (step x H5 y5)) fun _ s6 ⟨σ6, H6, I6, q6⟩ => ?_)
    refine wpAny_passesOwn hp (thn (hb _ s6 σ6 H6 _ I6 q6) fun f s7 q7 => ?_)
    have again : ∀ {σ7 : St} {H7 : Hp}, Inv X (pins ++ pinsAt fp s5.heap) σ7 H7 s7 → N σ7 H7 → ∃ m, m < n ∧ ∃ i σ' H', Inv X pins σ' H' s7 ∧ tn i s7.heap ∧ (∀ b ∈ fp, H' b = none) ∧ W i m σ' H' := fun {σ7 H7} I7 n7 => by
      obtain ⟨m', hm, w7⟩ := hN σ7 H7 n7
      refine ⟨m', hm, i + 1, σ7, H7, I7.unpinned, T.keep _ _ _ st5 fun b hb o e => (I7.pin (b, o) (List.mem_append_right _ (List.mem_append_right _ (mem_pinsAt hb e)))).1, fun b hb => ?_, w7⟩
      obtain ⟨o, e, d⟩ := T.obj _ _ st5 b hb
      exact (I7.pin (b, o) (List.mem_append_right _ (List.mem_append_right _ (mem_pinsAt hb e)))).2.1
    cases f with
    | next => obtain ⟨σ7, H7, I7, n7⟩ := q7; exact again I7 n7
    | cont => obtain ⟨σ7, H7, I7, n7⟩ := q7; exact again I7 n7
    | brk => obtain ⟨σ7, H7, I7, q7⟩ := q7; exact ⟨σ7, H7, I7.unpinned, q7⟩
    | ret v => obtain ⟨x7, σ7, H7, I7, r7, q7⟩ := q7; exact ⟨x7, σ7, H7, I7.unpinned, r7, q7⟩
end

/-! ### the forms one uses -/
/-- over a list that the body leaves as it is -/
theorem for_list {K : PySem.W.Frag} {a : Addr} {xs : List V} {g : TG} {tb : TS} {D : Ends} {σ : St} {H : Hp} (Pv : Nat → St → Hp → Prop) (h0 : Pv 0 σ H) (hl : ∀ i σ H, i ≤ xs.length → Pv i σ H → SqL K H a xs)
    (hs : ∀ i x σ H, xs[i]? = some x → Pv i σ H → g x σ H fun σ2 H2 => tb { D with nx := Pv (i + 1), ct := Pv (i + 1), bk := D.nx } σ2 H2) (hd : ∀ σ H, Pv xs.length σ H → D.nx σ H) :
    ∃ W : Nat → Nat → St → Hp → Prop, (∃ m, W 0 m σ H) ∧ ∀ i m σ H, W i m σ H →
      ((Itl K a).stop i H ∧ D.nx σ H) ∨ ((Itl K a).go i H ∧ ∃ N : St → Hp → Prop, (∀ σ' H', N σ' H' → ∃ m', m' < m ∧ W (i + 1) m' σ' H') ∧ ∀ x H', (Itl K a).yld i H x H' → g x σ H' fun σ2 H2 => tb { D with nx := N, ct := N, bk := D.nx } σ2 H2) := by
  refine ⟨fun i m σ H => m = xs.length - i ∧ i ≤ xs.length ∧ Pv i σ H, ⟨xs.length, by simp, Nat.zero_le _, h0⟩, ?_⟩
  rintro i m σ H ⟨rfl, hi, p⟩
  have q := hl i σ H hi p
  by_cases hlt : i < xs.length
  · refine .inr ⟨⟨xs, xs[i], q, by simp [hlt]⟩, Pv (i + 1), fun σ' H' p' => ⟨xs.length - (i + 1), by omega, rfl, hlt, p'⟩, fun x H' y => ?_⟩
    obtain ⟨e, y⟩ := y
    subst e
    exact hs i x σ _ (y xs q) p
  · have e : i = xs.length := by omega
    subst e
    exact .inl ⟨⟨xs, q, Nat.le_refl _⟩, hd σ H p⟩
theorem for_tup {K : PySem.W.Frag} {a : Addr} {xs : List V} {g : TG} {tb : TS} {D : Ends} {σ : St} {H : Hp} (Pv : Nat → St → Hp → Prop) (h0 : Pv 0 σ H) (hl : ∀ i σ H, i ≤ xs.length → Pv i σ H → SqT K H a xs)
    (hs : ∀ i x σ H, xs[i]? = some x → Pv i σ H → g x σ H fun σ2 H2 => tb { D with nx := Pv (i + 1), ct := Pv (i + 1), bk := D.nx } σ2 H2) (hd : ∀ σ H, Pv xs.length σ H → D.nx σ H) :
    ∃ W : Nat → Nat → St → Hp → Prop, (∃ m, W 0 m σ H) ∧ ∀ i m σ H, W i m σ H →
      ((Itt K a).stop i H ∧ D.nx σ H) ∨ ((Itt K a).go i H ∧ ∃ N : St → Hp → Prop, (∀ σ' H', N σ' H' → ∃ m', m' < m ∧ W (i + 1) m' σ' H') ∧ ∀ x H', (Itt K a).yld i H x H' → g x σ H' fun σ2 H2 => tb { D with nx := N, ct := N, bk := D.nx } σ2 H2) := by
  refine ⟨fun i m σ H => m = xs.length - i ∧ i ≤ xs.length ∧ Pv i σ H, ⟨xs.length, by simp, Nat.zero_le _, h0⟩, ?_⟩
  rintro i m σ H ⟨rfl, hi, p⟩
  have q := hl i σ H hi p
  by_cases hlt : i < xs.length
  · refine .inr ⟨⟨xs, xs[i], q, by simp [hlt]⟩, Pv (i + 1), fun σ' H' p' => ⟨xs.length - (i + 1), by omega, rfl, hlt, p'⟩, fun x H' y => ?_⟩
    obtain ⟨e, y⟩ := y
    subst e
    exact hs i x σ _ (y xs q) p
  · have e : i = xs.length := by omega
    subst e
    exact .inl ⟨⟨xs, q, Nat.le_refl _⟩, hd σ H p⟩
theorem for_range {lo : Int} {n : Nat} {g : TG} {tb : TS} {D : Ends} {σ : St} {H : Hp} (Pv : Nat → St → Hp → Prop) (h0 : Pv 0 σ H)
    (hs : ∀ i σ H, i < n → Pv i σ H → g (.int (lo + i)) σ H fun σ2 H2 => tb { D with nx := Pv (i + 1), ct := Pv (i + 1), bk := D.nx } σ2 H2) (hd : ∀ σ H, Pv n σ H → D.nx σ H) :
    ∃ W : Nat → Nat → St → Hp → Prop, (∃ m, W 0 m σ H) ∧ ∀ i m σ H, W i m σ H →
      ((Itr lo n).stop i H ∧ D.nx σ H) ∨ ((Itr lo n).go i H ∧ ∃ N : St → Hp → Prop, (∀ σ' H', N σ' H' → ∃ m', m' < m ∧ W (i + 1) m' σ' H') ∧ ∀ x H', (Itr lo n).yld i H x H' → g x σ H' fun σ2 H2 => tb { D with nx := N, ct := N, bk := D.nx } σ2 H2) := by
  refine ⟨fun i m σ H => m = n - i ∧ i ≤ n ∧ Pv i σ H, ⟨n, by simp, Nat.zero_le _, h0⟩, ?_⟩
  rintro i m σ H ⟨rfl, hi, p⟩
  by_cases hlt : i < n
  · refine .inr ⟨hlt, Pv (i + 1), fun σ' H' p' => ⟨n - (i + 1), by omega, rfl, hlt, p'⟩, fun x H' y => ?_⟩
    obtain ⟨e, y⟩ := y
    subst e y
    exact hs i σ _ hlt p
  · have e : i = n := by omega
    subst e
    exact .inl ⟨Nat.le_refl _, hd σ H p⟩
end L2

namespace L2
open PySem PySem.Spec PyProof.Rows

abbrev R2 := V → V → Hp → VK → Prop
/-- a two-place operation on values: f is binaryOp op, inplaceOp op or compareOp op -/
def OpR (X : Cx) (f : Value → Value → Sem Value) (r : R2) : Prop :=
  ∀ (pins : List (Addr × Obj)) (s : Shared) (σ : St) (H : Hp) (x y : V) (v u : Value) (Q : VK), Inv X pins σ H s → RelV x v → RelV y u → r x y H Q →
    wpAny (model X.prog X.w) X.A (f v u) (EP X pins σ Q) X.xe s
/-- a one-place operation -/
def UnR (X : Cx) (f : Value → Sem Value) (r : V → Hp → VK → Prop) : Prop :=
  ∀ (pins : List (Addr × Obj)) (s : Shared) (σ : St) (H : Hp) (x : V) (v : Value) (Q : VK), Inv X pins σ H s → RelV x v → r x H Q →
    wpAny (model X.prog X.w) X.A (f v) (EP X pins σ Q) X.xe s
/-- a call of a value that is known (a builtin, a type) with values -/
def CallR (X : Cx) (f : Value) (r : List V → Hp → VK → Prop) : Prop :=
  ∀ (pins : List (Addr × Obj)) (s : Shared) (σ : St) (H : Hp) (xs : List V) (us : List Value) (Q : VK), Inv X pins σ H s → Vals xs us → r xs H Q →
    wpAny (model X.prog X.w) X.A (call f us) (EP X pins σ Q) X.xe s

def tOp (r : R2) (ta tb : TE) : TE := fun σ H Q => ta σ H fun x H1 => tb σ H1 fun y H2 => r x y H2 Q
def tUn (r : V → Hp → VK → Prop) (ta : TE) : TE := fun σ H Q => ta σ H fun x H1 => r x H1 Q
/-- ints in, under C, and a value out -/
def rI (C : Int → Int → Prop) (g : Int → Int → V) : R2 := fun x y H Q => ∃ i j, x = .int i ∧ y = .int j ∧ C i j ∧ Q (g i j) H
def rI0 (g : Int → Int → V) : R2 := fun x y H Q => ∃ i j, x = .int i ∧ y = .int j ∧ Q (g i j) H
def rU (g : Int → V) : V → Hp → VK → Prop := fun x H Q => ∃ i, x = .int i ∧ Q (g i) H

section
variable {X : Cx} {a b c : Expr} {ta tb tc : TE} {pos : Pos}

theorem binT (ha : PE X a ta) (hb : PE X b tb) {pins : List (Addr × Obj)} {s : Shared} {σ : St} {H : Hp} {R : V → V → Hp → Prop} (I : Inv X pins σ H s)
    (h : ta σ H fun x H1 => tb σ H1 fun y H2 => R x y H2) {Q : Value → Shared → Prop} {f : Value → Value → Sem Value}
    (hf : ∀ v u s2 x y H2, Inv X pins σ H2 s2 → RelV x v → RelV y u → R x y H2 → wpAny (model X.prog X.w) X.A (f v u) Q X.xe s2) :
    wpAny (model X.prog X.w) X.A (eval a X.env) (fun v s₁ => wpAny (model X.prog X.w) X.A (eval b X.env) (fun u s₂ => wpAny (model X.prog X.w) X.A (f v u) Q X.xe s₂) X.xe s₁) X.xe s := by
  refine thn (ha pins s σ H _ I h) fun v s1 ⟨x, H1, I1, r1, q1⟩ => ?_
  refine thn (hb pins s1 σ H1 _ I1 q1) fun u s2 ⟨y, H2, I2, r2, q2⟩ => ?_
  exact hf v u s2 x y H2 I2 r1 r2 q2

theorem pe_op {op : Operator} {r : R2} (ho : OpR X (binaryOp op) r) (ha : PE X a ta) (hb : PE X b tb) : PE X (.BinOp a op b pos) (tOp r ta tb) := by
  intro pins s σ H Q I h
  exact wpAny_BinOp (binT ha hb I h fun v u s2 x y H2 I2 rx ry q => ho pins s2 σ H2 x y v u Q I2 rx ry q)
theorem pe_un {op : UnaryOp} {r : V → Hp → VK → Prop} (ho : UnR X (unaryOp op) r) (ha : PE X a ta) : PE X (.UnaryOp op a pos) (tUn r ta) := by
  intro pins s σ H Q I h
  exact UnaryOp_ (thn (ha pins s σ H _ I h) fun v s1 ⟨x, H1, I1, r1, q1⟩ => ho pins s1 σ H1 x v Q I1 r1 q1)

/-! ### ints -/
theorem opI {f : Value → Value → Sem Value} {C : Int → Int → Prop} {g : Int → Int → Int}
    (rule : ∀ (i j : Int) (t u : Tok) (s : Shared) (Q : Value → Shared → Prop) (E : Value → Shared → Prop), C i j → Q (.int (g i j) s.toks) { s with toks := s.toks + 1 } → wpAny (model X.prog X.w) X.A (f (.int i t) (.int j u)) Q E s) :
    OpR X f (rI C fun i j => .int (g i j)) := by
  intro pins s σ H x y v u Q I rx ry h
  obtain ⟨i, j, rfl, rfl, hc, q⟩ := h
  obtain ⟨t, rfl⟩ := rx
  obtain ⟨t', rfl⟩ := ry
  exact rule i j t t' s _ _ hc ⟨.int (g i j), H, I.tok _, ⟨_, rfl⟩, q⟩
theorem opI0 {f : Value → Value → Sem Value} {g : Int → Int → Int}
    (rule : ∀ (i j : Int) (t u : Tok) (s : Shared) (Q : Value → Shared → Prop) (E : Value → Shared → Prop), Q (.int (g i j) s.toks) { s with toks := s.toks + 1 } → wpAny (model X.prog X.w) X.A (f (.int i t) (.int j u)) Q E s) :
    OpR X f (rI0 fun i j => .int (g i j)) := by
  intro pins s σ H x y v u Q I rx ry h
  obtain ⟨i, j, rfl, rfl, q⟩ := h
  obtain ⟨t, rfl⟩ := rx
  obtain ⟨t', rfl⟩ := ry
  exact rule i j t t' s _ _ ⟨.int (g i j), H, I.tok _, ⟨_, rfl⟩, q⟩
theorem opB0 {f : Value → Value → Sem Value} {g : Int → Int → Bool}
    (rule : ∀ (i j : Int) (t u : Tok) (s : Shared) (Q : Value → Shared → Prop) (E : Value → Shared → Prop), Q (.bool (g i j)) s → wpAny (model X.prog X.w) X.A (f (.int i t) (.int j u)) Q E s) :
    OpR X f (rI0 fun i j => .bl (g i j)) := by
  intro pins s σ H x y v u Q I rx ry h
  obtain ⟨i, j, rfl, rfl, q⟩ := h
  obtain ⟨t, rfl⟩ := rx
  obtain ⟨t', rfl⟩ := ry
  exact rule i j t t' s _ _ ⟨.bl (g i j), H, I, rfl, q⟩

def CDiv (i j : Int) : Prop := 0 < j ∧ j < 1073741824
def CPow (i j : Int) : Prop := 0 ≤ j ∧ j ≤ 1000000 ∧ i.natAbs < 2 ^ 64
def CMul (i j : Int) : Prop := (-(2 ^ 64) < i ∧ i < 2 ^ 64) ∨ (-(2 ^ 64) < j ∧ j < 2 ^ 64)
theorem CMul.ok {i j : Int} (h : CMul i j) : IntMulOk i j := by
  rcases h with ⟨h1, h2⟩ | ⟨h1, h2⟩
  · exact .of_left (intBits_le_64 h1 h2)
  · exact .of_right (intBits_le_64 h1 h2)

theorem op_add : OpR X (binaryOp .Add) (rI0 fun i j => .int (i + j)) := opI0 fun _ _ _ _ _ _ _ q => add_int q
theorem op_sub : OpR X (binaryOp .Sub) (rI0 fun i j => .int (i - j)) := opI0 fun _ _ _ _ _ _ _ q => sub_int q
theorem op_mul : OpR X (binaryOp .Mult) (rI CMul fun i j => .int (i * j)) := opI fun _ _ _ _ _ _ _ hc q => mul_int q hc.ok
/-- // by a positive divisor -/
theorem op_fdiv : OpR X (binaryOp .FloorDiv) (rI CDiv fun i j => .int (i / j)) := opI fun i j _ _ _ _ _ hc q => by
  have h1 : (0 : Int) < j := hc.1
  have h2 : j < 1073741824 := hc.2
  exact floordiv_int (by omega) (by rw [Int.fdiv_eq_ediv_of_nonneg i (by omega)]; exact q) (.inl (PyProof.noPylong_small (by omega)))
/-- % by a positive divisor of any size -/
theorem op_mod : OpR X (binaryOp .Mod) (rI (fun _ j => 0 < j) fun i j => .int (i % j)) := opI fun i j _ _ _ _ _ hc q => by
  have h1 : (0 : Int) < j := hc
  exact mod_int' (by omega) (by rw [Int.fmod_eq_emod_of_nonneg i (by omega)]; exact q)
theorem op_pow : OpR X (binaryOp .Pow) (rI CPow fun i j => .int (i ^ j.toNat)) := opI fun _ _ _ _ _ _ _ hc q => pow_int_small hc.1 hc.2.1 hc.2.2 q


theorem unI {f : Value → Sem Value} {g : Int → Int}
    (rule : ∀ (i : Int) (t : Tok) (s : Shared) (Q : Value → Shared → Prop) (E : Value → Shared → Prop), Q (.int (g i) s.toks) { s with toks := s.toks + 1 } → wpAny (model X.prog X.w) X.A (f (.int i t)) Q E s) :
    UnR X f (rU fun i => .int (g i)) := by
  intro pins s σ H x v Q I rx h
  obtain ⟨i, rfl, q⟩ := h
  obtain ⟨t, rfl⟩ := rx
  exact rule i t s _ _ ⟨.int (g i), H, I.tok _, ⟨_, rfl⟩, q⟩
theorem un_neg : UnR X (unaryOp .USub) (rU fun i => .int (-i)) := unI fun _ _ _ _ _ q => neg_int q

/-! ### bools among ints: n += (a < b) -/
end

/-! ### comparisons -/
/-- the scalars that == tells apart as data does -/
def scal : V → V → Bool
  | .non, .non => true | .non, .int _ => true | .int _, .non => true | .non, .bl _ => true | .bl _, .non => true | .non, .str _ => true | .str _, .non => true
  | .int _, .int _ => true | .bl _, .bl _ => true | .str _, .str _ => true | .byt _, .byt _ => true
  | .int _, .str _ => true | .str _, .int _ => true | .bl _, .str _ => true | .str _, .bl _ => true
  | _, _ => false
def rEq : R2 := fun x y H Q => scal x y = true ∧ Q (.bl (decide (x = y))) H
def rNe : R2 := fun x y H Q => scal x y = true ∧ Q (.bl (!decide (x = y))) H

theorem dec_int {i j : Int} : decide (V.int i = V.int j) = (i == j) := by
  rw [Bool.eq_iff_iff]
  simp
theorem dec_bl {i j : Bool} : decide (V.bl i = V.bl j) = (i == j) := by
  rw [Bool.eq_iff_iff]
  simp
theorem dec_str {i j : Str} : decide (V.str i = V.str j) = (i == j) := by
  rw [Bool.eq_iff_iff]
  simp
theorem dec_byt {i j : Array UInt8} : decide (V.byt i = V.byt j) = (i.toList == j.toList) := by
  rw [Bool.eq_iff_iff]
  cases i
  cases j
  simp

section
variable {X : Cx} {a b c : Expr} {ta tb tc : TE} {pos : Pos}
theorem fin_bl {pins : List (Addr × Obj)} {σ : St} {H : Hp} {s : Shared} {Q : VK} {k k' : Bool} (I : Inv X pins σ H s) (q : Q (.bl k) H) (e : k = k') : EP X pins σ Q (.bool k') s := by
  subst e
  exact ⟨.bl k, H, I, rfl, q⟩
theorem op_eq : OpR X (compareOp .Eq) rEq := by
  intro pins s σ H x y v u Q I rx ry h
  obtain ⟨hs, q⟩ := h
  cases x with
  | non =>
    cases rx
    cases y with
    | non => cases ry; exact PySem.EqNone.eq_none_none (fin_bl I q (by simp))
    | bl j => cases ry; exact PySem.EqNone.eq_none_bool (fin_bl I q (by simp))
    | int j => obtain ⟨t', rfl⟩ := ry; exact PySem.EqNone.eq_none_int (fin_bl I q (by simp))
    | str j => obtain ⟨t', rfl⟩ := ry; exact PySem.EqNone.eq_none_str (fin_bl I q (by simp))
    | _ => exact absurd (show false = true from hs) Bool.false_ne_true
  | bl i =>
    cases rx
    cases y with
    | non => cases ry; exact PySem.EqNone.eq_bool_none (fin_bl I q (by simp))
    | bl j => cases ry; exact eq_bool (fin_bl I q dec_bl)
    | str j => obtain ⟨t', rfl⟩ := ry; exact PySem.EqMixed.eq_bool_str (fin_bl I q (by simp))
    | _ => exact absurd (show false = true from hs) Bool.false_ne_true
  | int i =>
    obtain ⟨t, rfl⟩ := rx
    cases y with
    | non => cases ry; exact PySem.EqNone.eq_int_none (fin_bl I q (by simp))
    | int j => obtain ⟨t', rfl⟩ := ry; exact eq_int (fin_bl I q dec_int)
    | str j => obtain ⟨t', rfl⟩ := ry; exact PySem.EqMixed.eq_int_str (fin_bl I q (by simp))
    | _ => exact absurd (show false = true from hs) Bool.false_ne_true
  | str i =>
    obtain ⟨t, rfl⟩ := rx
    cases y with
    | non => cases ry; exact PySem.EqNone.eq_str_none (fin_bl I q (by simp))
    | bl j => cases ry; exact PySem.EqMixed.eq_str_bool (fin_bl I q (by simp))
    | int j => obtain ⟨t', rfl⟩ := ry; exact PySem.EqMixed.eq_str_int (fin_bl I q (by simp))
    | str j => obtain ⟨t', rfl⟩ := ry; exact eq_str (fin_bl I q dec_str)
    | _ => exact absurd (show false = true from hs) Bool.false_ne_true
  | byt i =>
    obtain ⟨t, rfl⟩ := rx
    cases y with
    | byt j => obtain ⟨t', rfl⟩ := ry; exact PySem.W.eq_bytes (fin_bl I q dec_byt)
    | _ => exact absurd (show false = true from hs) Bool.false_ne_true
  | _ => cases y <;> exact absurd (show false = true from hs) Bool.false_ne_true
theorem op_ne : OpR X (compareOp .NotEq) rNe := by
  intro pins s σ H x y v u Q I rx ry h
  obtain ⟨hs, q⟩ := h
  cases x with
  | non =>
    cases rx
    cases y with
    | non => cases ry; exact PySem.EqNone.ne_none_none (fin_bl I q (by simp))
    | bl j => cases ry; exact PySem.EqNone.ne_none_bool (fin_bl I q (by simp))
    | int j => obtain ⟨t', rfl⟩ := ry; exact PySem.EqNone.ne_none_int (fin_bl I q (by simp))
    | str j => obtain ⟨t', rfl⟩ := ry; exact PySem.EqNone.ne_none_str (fin_bl I q (by simp))
    | _ => exact absurd (show false = true from hs) Bool.false_ne_true
  | bl i =>
    cases rx
    cases y with
    | non => cases ry; exact PySem.EqNone.ne_bool_none (fin_bl I q (by simp))
    | bl j => cases ry; exact ne_bool (fin_bl I q (congrArg not dec_bl))
    | str j => obtain ⟨t', rfl⟩ := ry; exact PySem.EqMixed.ne_bool_str (fin_bl I q (by simp))
    | _ => exact absurd (show false = true from hs) Bool.false_ne_true
  | int i =>
    obtain ⟨t, rfl⟩ := rx
    cases y with
    | non => cases ry; exact PySem.EqNone.ne_int_none (fin_bl I q (by simp))
    | int j => obtain ⟨t', rfl⟩ := ry; exact ne_int (fin_bl I q (congrArg not dec_int))
    | str j => obtain ⟨t', rfl⟩ := ry; exact PySem.EqMixed.ne_int_str (fin_bl I q (by simp))
    | _ => exact absurd (show false = true from hs) Bool.false_ne_true
  | str i =>
    obtain ⟨t, rfl⟩ := rx
    cases y with
    | non => cases ry; exact PySem.EqNone.ne_str_none (fin_bl I q (by simp))
    | bl j => cases ry; exact PySem.EqMixed.ne_str_bool (fin_bl I q (by simp))
    | int j => obtain ⟨t', rfl⟩ := ry; exact PySem.EqMixed.ne_str_int (fin_bl I q (by simp))
    | str j => obtain ⟨t', rfl⟩ := ry; exact ne_str (fin_bl I q (congrArg not dec_str))
    | _ => exact absurd (show false = true from hs) Bool.false_ne_true
  | byt i =>
    obtain ⟨t, rfl⟩ := rx
    cases y with
    | byt j => obtain ⟨t', rfl⟩ := ry; exact PySem.W.ne_bytes (fin_bl I q (congrArg not dec_byt))
    | _ => exact absurd (show false = true from hs) Bool.false_ne_true
  | _ => cases y <;> exact absurd (show false = true from hs) Bool.false_ne_true

theorem op_lt : OpR X (compareOp .Lt) (rI0 fun i j => .bl (decide (i < j))) := opB0 fun _ _ _ _ _ _ _ q => lt_int q
theorem op_le : OpR X (compareOp .LtE) (rI0 fun i j => .bl (decide (i ≤ j))) := opB0 fun _ _ _ _ _ _ _ q => le_int q
theorem op_gt : OpR X (compareOp .Gt) (rI0 fun i j => .bl (decide (j < i))) := opB0 fun _ _ _ _ _ _ _ q => gt_int q
theorem op_ge : OpR X (compareOp .GtE) (rI0 fun i j => .bl (decide (j ≤ i))) := opB0 fun _ _ _ _ _ _ _ q => ge_int q



/-- two rules for one operation: by cases -/
theorem OpR.or {f : Value → Value → Sem Value} {r r' : R2} (h : OpR X f r) (h' : OpR X f r') : OpR X f (fun x y H Q => r x y H Q ∨ r' x y H Q) := by
  intro pins s σ H x y v u Q I rx ry q
  rcases q with q | q
  · exact h pins s σ H x y v u Q I rx ry q
  · exact h' pins s σ H x y v u Q I rx ry q

theorem nomark (b : Expr) {op : CmpOp} (h : op ≠ .In := by decide) (h2 : op ≠ .NotIn := by decide) : behindInMarks op b = false := by
  have e1 : (op == CmpOp.In) = false := by cases op <;> first | rfl | exact absurd rfl h
  have e2 : (op == CmpOp.NotIn) = false := by cases op <;> first | rfl | exact absurd rfl h2
  cases b <;> simp [behindInMarks, e1, e2]
/-- a comparison as a value; hm: nomark b, or (for in, not in) by with_unfolding_all rfl -/
theorem pe_cmpR {op : CmpOp} {r : R2} (ho : OpR X (compareOp op) r) (ha : PE X a ta) (hb : PE X b tb) (hm : behindInMarks op b = false) : PE X (.Compare a [op] [b] pos) (tOp r ta tb) := by
  intro pins s σ H Q I h
  exact wpAny_Compare1 (binT ha hb I h fun v u s2 x y H2 I2 rx ry q => ho pins s2 σ H2 x y v u Q I2 rx ry q) hm
/-- a reading of a value as a test -/
def tTest (t : TE) : TT := fun σ H Q => t σ H fun x H' => ∃ k, x = .bl k ∧ Q k H'
theorem pt_cmpR {op : CmpOp} {r : R2} (ho : OpR X (compareOp op) r) (ha : PE X a ta) (hb : PE X b tb) (hm : behindInMarks op b = false) : PT X (.Compare a [op] [b] pos) (tTest (tOp r ta tb)) := by
  intro pins s σ H Q I h
  refine wpAny_isTrue_Compare1 (thn (ha pins s σ H _ I h) fun v s1 ⟨x, H1, I1, r1, q1⟩ => thn (hb pins s1 σ H1 _ I1 q1) fun u s2 ⟨y, H2, I2, r2, q2⟩ =>
    thn (ho pins s2 σ H2 x y v u _ I2 r1 r2 q2) fun c s3 ⟨z, H3, I3, r3, k, e, q3⟩ => ?_) hm
  subst e
  cases r3
  exact wpAny_truthy_bool ⟨H3, I3, q3⟩
/-- a op1 b op2 c -/
def tChain (r r' : R2) (ta tb tc : TE) : TE := fun σ H Q => ta σ H fun x H1 => tb σ H1 fun y H2 => r x y H2 fun z H3 => ∃ k, z = .bl k ∧
  (if k = true then tc σ H3 fun w' H4 => r' y w' H4 Q else Q (.bl false) H3)
theorem pe_chain {op op' : CmpOp} {r r' : R2} (ho : OpR X (compareOp op) r) (ho' : OpR X (compareOp op') r') (ha : PE X a ta) (hb : PE X b tb) (hc : PE X c tc)
    (hm : lastMarks [op, op'] [b, c] = false := by with_unfolding_all rfl) : PE X (.Compare a [op, op'] [b, c] pos) (tChain r r' ta tb tc) := by
  intro pins s σ H Q I h
  refine Compare_chain (thn (ha pins s σ H _ I h) fun v s1 ⟨x, H1, I1, r1, q1⟩ => chain_link (thn (hb pins s1 σ H1 _ I1 q1) fun u s2 ⟨y, H2, I2, r2, q2⟩ =>
    thn (ho pins s2 σ H2 x y v u _ I2 r1 r2 q2) fun d s3 ⟨z, H3, I3, r3, k, e, q3⟩ => ?_)) hm
  subst e
  cases r3
  refine wpAny_truthy_bool ?_
  cases k with
  | false => exact ite_ff ⟨.bl false, H3, I3, rfl, q3⟩
  | true => exact ite_tt (chain_last (thn (hc pins s3 σ H3 _ I3 q3) fun w' s4 ⟨z', H4, I4, r4, q4⟩ => ho' pins s4 σ H4 y z' u w' Q I4 r2 r4 q4))
theorem pt_chain {op op' : CmpOp} {r r' : R2} (ho : OpR X (compareOp op) r) (ho' : OpR X (compareOp op') r') (ha : PE X a ta) (hb : PE X b tb) (hc : PE X c tc)
    (hm : lastMarks [op, op'] [b, c] = false := by with_unfolding_all rfl) : PT X (.Compare a [op, op'] [b, c] pos) (tTest (tChain r r' ta tb tc)) := by
  intro pins s σ H Q I h
  refine isTrue_chain (thn (ha pins s σ H _ I h) fun v s1 ⟨x, H1, I1, r1, q1⟩ => test_link (thn (hb pins s1 σ H1 _ I1 q1) fun u s2 ⟨y, H2, I2, r2, q2⟩ =>
    thn (ho pins s2 σ H2 x y v u _ I2 r1 r2 q2) fun d s3 ⟨z, H3, I3, r3, k, e, q3⟩ => ?_)) hm
  subst e
  cases r3
  refine wpAny_truthy_bool ?_
  cases k with
  | false =>
    obtain ⟨k', e', q'⟩ := q3
    cases e'
    exact ite_ff ⟨H3, I3, q'⟩
  | true =>
    refine ite_tt (test_last (thn (hc pins s3 σ H3 _ I3 q3) fun w' s4 ⟨z', H4, I4, r4, q4⟩ => thn (ho' pins s4 σ H4 y z' u w' _ I4 r2 r4 q4) fun d' s5 ⟨z2, H5, I5, r5, k2, e2, q5⟩ => ?_))
    subst e2
    cases r5
    exact wpAny_truthy_bool ⟨H5, I5, q5⟩

/-! ### truth -/
theorem line63 : (sizeLine : Nat) < 2 ^ 63 := by rw [sizeLine_eq]; decide

/-! ### strs and bytes -/
theorem op_add_str : OpR X (binaryOp .Add) (fun x y H Q => ∃ i j, x = .str i ∧ y = .str j ∧ i.length + j.length ≤ sizeLine ∧ Q (.str (i ++ j)) H) := by
  intro pins s σ H x y v u Q I rx ry h
  obtain ⟨i, j, rfl, rfl, hz, q⟩ := h
  obtain ⟨t, rfl⟩ := rx
  obtain ⟨t', rfl⟩ := ry
  exact add_str (fun t' tk => ⟨.str (i ++ j), H, I.tok _, ⟨_, rfl⟩, q⟩) hz


/-! ### scalar builtins, by CallR -/
theorem vals1 {x : V} {us : List Value} (r : Vals [x] us) : ∃ u, us = [u] ∧ RelV x u := by
  cases r with
  | cons r1 r2 => cases r2; exact ⟨_, rfl, r1⟩
theorem vals2 {x y : V} {us : List Value} (r : Vals [x, y] us) : ∃ u w', us = [u, w'] ∧ RelV x u ∧ RelV y w' := by
  cases r with
  | cons r1 r2 =>
    cases r2 with
    | cons r3 r4 => cases r4; exact ⟨_, _, rfl, r1, r3⟩
theorem call_abs : CallR X (.builtin "abs") (fun xs H Q => ∃ i, xs = [.int i] ∧ Q (.int (if i < 0 then -i else i)) H) := by
  intro pins s σ H xs us Q I r h
  obtain ⟨i, rfl, q⟩ := h
  obtain ⟨u, rfl, t, rfl⟩ := vals1 r
  exact call_abs_int fun u tk => ⟨.int (if i < 0 then -i else i), H, I.tok _, ⟨_, rfl⟩, q⟩
theorem call_max2 (hc : X.calm = true) : CallR X (.builtin "max") (fun xs H Q => ∃ i j, xs = [.int i, .int j] ∧ Q (.int (if j > i then j else i)) H) := by
  intro pins s σ H xs us Q I r h
  obtain ⟨i, j, rfl, q⟩ := h
  obtain ⟨u, w', rfl, ⟨t, rfl⟩, ⟨t', rfl⟩⟩ := vals2 r
  refine max_two_ints (I.ok.hd hc) fun h' tk k => ⟨_, H, I.kept k, ?_, q⟩
  by_cases hj : j > i
  · rw [if_pos hj, if_pos hj]; exact ⟨_, rfl⟩
  · rw [if_neg hj, if_neg hj]; exact ⟨_, rfl⟩
theorem call_min2 (hc : X.calm = true) : CallR X (.builtin "min") (fun xs H Q => ∃ i j, xs = [.int i, .int j] ∧ Q (.int (if j < i then j else i)) H) := by
  intro pins s σ H xs us Q I r h
  obtain ⟨i, j, rfl, q⟩ := h
  obtain ⟨u, w', rfl, ⟨t, rfl⟩, ⟨t', rfl⟩⟩ := vals2 r
  refine min_two_ints (I.ok.hd hc) fun h' tk k => ⟨_, H, I.kept k, ?_, q⟩
  by_cases hj : j < i
  · rw [if_pos hj, if_pos hj]; exact ⟨_, rfl⟩
  · rw [if_neg hj, if_neg hj]; exact ⟨_, rfl⟩
theorem call_int1 : CallR X (.type "int") (fun xs H Q => (∃ i, xs = [.int i] ∧ Q (.int i) H) ∨ ∃ k, xs = [.bl k] ∧ Q (.int (if k then 1 else 0)) H) := by
  intro pins s σ H xs us Q I r h
  rcases h with ⟨i, rfl, q⟩ | ⟨k, rfl, q⟩
  · obtain ⟨u, rfl, t, rfl⟩ := vals1 r
    exact call_int_int ⟨.int i, H, I, ⟨_, rfl⟩, q⟩
  · obtain ⟨u, rfl, r1⟩ := vals1 r
    cases r1
    exact call_int_bool ⟨.int (if k then 1 else 0), H, I.tok _, ⟨_, rfl⟩, q⟩
end
end L2

namespace L2
open PySem PySem.Spec PyProof.Rows

/-! ### an instance, its attributes a map -/
structure ObjM (h : Heap) (x dx C : Addr) (mA : Str → Option Value) : Prop where
  obj : h.get? x = some (PySem.W.instObj C dx)
  ns : h.Ns1 dx mA
  ne : dx ≠ x

theorem lookIn_ns {h : Heap} {dx : Addr} {mA : Str → Option Value} (n : h.Ns1 dx mA) : ∃ od, h.get? dx = some od ∧ ∀ name, PySem.W.lookIn name od = some (mA name) := by
  obtain ⟨o, es, ep, ho, hd, hk, _, hm⟩ := n
  refine ⟨o, ho, fun name => ?_⟩
  have e := hm name
  unfold nsFind findBy at e
  rw [← Array.find?_toList] at e
  unfold PySem.W.lookIn
  rw [hd]
  dsimp only
  split
  · rename_i y q
    rw [q] at e
    exact congrArg some e
  · rename_i q
    rw [q] at e
    have a : es.toList.any (·.refKey) = false := by
      rw [List.any_eq_false]
      intro y hy
      obtain ⟨z, t, hkey⟩ := hk y (Array.mem_toList_iff.mp hy)
      simp [DictEntry.refKey, hkey]
    have a' : ¬ es.toList.any (·.refKey) = true := by rw [a]; exact Bool.false_ne_true
    rw [if_neg a']
    exact congrArg some e

theorem ObjM.look {h : Heap} {x dx C : Addr} {mA : Str → Option Value} (I : ObjM h x dx C mA) : ∃ od, PySem.W.InstAt h x (PySem.W.instObj C dx) C (some od) ∧ ∀ name, PySem.W.lookIn name od = some (mA name) :=
  let ⟨od, ho, hl⟩ := lookIn_ns I.ns
  ⟨od, ⟨I.obj, rfl, rfl, ho⟩, hl⟩

section
variable {prog : Program} {w : World} {A : Around} {E : Value → Shared → Prop} {s : Shared} {K : PySem.W.Frag} {x dx C f : Addr} {mA : Str → Option Value} {name : Str} {v : Value}





end

/-! ### the attributes as a list of pairs -/

theorem RelO.some_of {v : V} {o : Option Value} (r : RelO (some v) o) : ∃ u, o = some u ∧ RelV v u := by
  cases o with
  | none => exact (show False from r).elim
  | some u => exact ⟨u, rfl, r⟩
theorem RelO.none_of {o : Option Value} (r : RelO none o) : o = none := by
  cases o with
  | none => rfl
  | some u => exact (show False from r).elim

section
variable {P : Program} {w : World} {H H' : Hp} {h h' : Heap} {a C dx : Addr} {fs fs' : List (Str × V)}
end

/-! ### what of the text a class must have -/
structure Cls (K : PySem.W.Frag) (C : Addr) : Prop where
  pg : PySem.W.plainGet K C Str.empty = true
  hd : PySem.W.hasDictIn K C = true
  po : PySem.W.plainOver K C = true
  sa : PySem.W.findIn K (.ref C) "__setattr__" = some (some (.builtin "object.__setattr__"))
theorem Cls.get {K : PySem.W.Frag} {C : Addr} (c : Cls K C) (f : Str) : PySem.W.plainGet K C f = true := c.pg
/-- a constant of the class -/
structure Con (K : PySem.W.Frag) (C : Addr) (f : Str) (v : V) (u : Value) : Prop where
  at_ : PySem.W.findIn K (.ref C) f = some (some u)
  rel : RelV v u
  get : PySem.W.specialIn K u "__get__" = some none
  cp : PySem.W.copiedNames.contains f = false
/-- a method: a plain def of the class or of one above it -/
structure Meth (K : PySem.W.Frag) (C : Addr) (m : Str) (f : Addr) : Prop where
  at_ : PySem.W.findIn K (.ref C) m = some (some (.ref f))
  fn : PySem.W.isFn K (.ref f) = true
  kp : PySem.W.keepIn K (.ref f) = true

section
variable {X : Cx} {pins : List (Addr × Obj)} {σ : St} {H : Hp} {s : Shared} {a C dx : Addr} {fs : List (Str × V)} {f : Str} {v : V} {A : Around} {E : Value → Shared → Prop}





/-- a new instance, tracked, without attributes -/
theorem Inv.made (I : Inv X pins σ H s) : Inv X pins σ (upd (upd H s.heap.objs.size (.own (s.heap.objs.size + 1))) (s.heap.objs.size + 1) (.ins C s.heap.objs.size []))
    { s with heap := (s.heap.push PySem.W.emptyDict).push (PySem.W.instObj C s.heap.objs.size) } := by
  have e1 : (s.heap.push PySem.W.emptyDict).get? s.heap.objs.size = some PySem.W.emptyDict := Heap.get?_push_size s.heap rfl
  have e2 : ((s.heap.push PySem.W.emptyDict).push (PySem.W.instObj C s.heap.objs.size)).get? (s.heap.objs.size + 1) = some (PySem.W.instObj C s.heap.objs.size) := by
    have := Heap.get?_push_size (s.heap.push PySem.W.emptyDict) (o := PySem.W.instObj C s.heap.objs.size) rfl
    rwa [Heap.size_push] at this
  have e3 : (s.heap.push PySem.W.emptyDict).Ns s.heap.objs.size (fun _ => none) := ⟨PySem.W.emptyDict, #[], _, e1, rfl, (fun e he => absurd he (by simp)), fun _ => rfl⟩
  have I1 := I.laid (a := s.heap.objs.size) (o := .own (s.heap.objs.size + 1)) (h' := s.heap.push PySem.W.emptyDict) (t' := s.toks) (fun b u q => Heap.get?_push_of_some _ q) (Nat.le_refl _) ⟨_, e1⟩
  refine I1.laid (a := s.heap.objs.size + 1) (o := .ins C s.heap.objs.size []) (t' := s.toks) (fun b u q => Heap.get?_push_of_some _ q) (Nat.le_of_eq (Heap.size_push _ _)) ?_
  have ne : s.heap.objs.size ≠ s.heap.objs.size + 1 := Nat.ne_of_lt (Nat.lt_succ_self _)
  refine ⟨by rw [upd_ne ne, upd_same], Nat.zero_le _, ne, e2, fun _ => none, (Heap.Ns1.of_empty e3).at fun o q => Heap.get?_push_of_some _ q, fun _ => True.intro, fun y hy => absurd rfl hy⟩

end

/-! ### readings and rules -/

section
variable {X : Cx} {o e value : Expr} {f : Str} {pos pos' tpos : Pos} {ta tv : TE}

end

/-! ### isinstance -/
section
variable {X : Cx} {pins : List (Addr × Obj)} {σ : St} {H : Hp} {s : Shared} {A : Around} {E : Value → Shared → Prop} {Q : Value → Shared → Prop} {c : Value} {b : Bool}
/-- the type of a value, as the fragment's deciders take it; for an instance its class -/
inductive TyOf (K : PySem.W.Frag) (H : Hp) : V → Value → Prop where
  | non : TyOf K H .non (.type "NoneType")
  | bl (x : Bool) : TyOf K H (.bl x) (.type "bool")
  | int (i : Int) : TyOf K H (.int i) (.type "int")
  | str (x : Str) : TyOf K H (.str x) (.type "str")
  | flt (x : UInt64) : TyOf K H (.flt x) (.type "float")
  | lst {a : Addr} {xs : List V} (e : H a = some (.lst xs)) : TyOf K H (.ref a) (.type "list")
  | frz {a : Addr} {o : Obj} {xs : List V} (e : H a = some (.frz o (.lst xs))) : TyOf K H (.ref a) (.type "list")
  | tup {a : Addr} {xs : List V} (e : H a = some (.tup xs)) : TyOf K H (.ref a) (.type "tuple")
  | dK {a : Addr} {kvs : List (Key × V)} (e : H a = some (.dK kvs)) : TyOf K H (.ref a) (.type "dict")
  | dT {a : Addr} {kvs : List (List Key × V)} (e : H a = some (.dT kvs)) : TyOf K H (.ref a) (.type "dict")
  | ins {a C dx : Addr} {fs : List (Str × V)} (e : H a = some (.ins C dx fs)) (cl : Cls K C) (ha : PySem.W.findIn K (.ref C) "__class__" = some (some (.builtin "object.__class__")))
      (hn : PySem.W.specialIn K (.builtin "object.__class__") "__get__" = some (some (.builtin "getset_descriptor.__get__"))) (htk : PySem.W.takesIn K (.builtin "object.__class__") = some true)
      (hm : PySem.W.mroIn K C (.type "object") = some true) : TyOf K H (.ref a) (.ref C)
end
end L2

namespace L2
open PySem PySem.Spec PyProof.Rows

/-! ### room -/
structure Room (k : Nat) (A : Around) : Prop where
  hd : A.handled = none
  dp : A.depth + 3 * k + 5 < recursionLimit
  un : A.units + 16 * k + 200 < cLine
  gd : A.guards = some []
theorem Room.mono {j k : Nat} {A : Around} (r : Room k A) (h : j ≤ k) : Room j A := ⟨r.hd, by have := r.dp; omega, by have := r.un; omega, r.gd⟩
theorem Room.deeper {k : Nat} {A : Around} (r : Room (k + 1) A) (env : Env) : Room k (A.deeper env) :=
  ⟨r.hd, by have := r.dp; show A.depth + 1 + 3 * k + 5 < _; omega, by have := r.un; show A.units + 3 + 16 * k + 200 < _; omega, r.gd⟩
theorem Room.in1 {k : Nat} {A : Around} (r : Room (k + 1) A) : Room k A.in1 :=
  ⟨r.hd, by have := r.dp; show A.depth + 3 * k + 5 < _; omega, by have := r.un; show A.units + 1 + 16 * k + 200 < _; omega, r.gd⟩
theorem make_depth {A : Around} {C : Addr} {us : List Value} {kw : List (Str × Value)} : (A.under (.builtin "type.__call__" ⟨.ref C :: us, kw⟩)).depth = A.depth + 1 := by
  first | rfl | simp [Around.under, Code.weight, Code.isCreation, Code.isGuard, Code.isCaller, Code.frames, Code.isFrame, guardIds]
theorem make_units {A : Around} {C : Addr} {us : List Value} {kw : List (Str × Value)} : (A.under (.builtin "type.__call__" ⟨.ref C :: us, kw⟩)).units = A.units + 1 := by
  first | rfl | simp [Around.under, Code.cUnits, Code.frames, Code.isFrame]
theorem make_guards {A : Around} {C : Addr} {us : List Value} {kw : List (Str × Value)} : (A.under (.builtin "type.__call__" ⟨.ref C :: us, kw⟩)).guards = A.guards := by
  first | rfl | simp [Around.under, Code.guards, Code.isGuard, guardIds, pushGuards]
theorem Room.make {k : Nat} {A : Around} (r : Room (k + 1) A) (C : Addr) (us : List Value) (kw : List (Str × Value)) : Room k (A.under (.builtin "type.__call__" ⟨.ref C :: us, kw⟩)) :=
  ⟨r.hd, by have := r.dp; rw [make_depth]; omega, by have := r.un; rw [make_units]; omega, by rw [make_guards]; exact r.gd⟩
theorem Room.depth {k : Nat} {A : Around} (r : Room k A) : A.depth < recursionLimit := by have := r.dp; omega
theorem Room.units {k : Nat} {A : Around} (r : Room k A) : A.units + 64 < cLine := by have := r.un; omega

/-! ### argument lists and displays -/
def tNil : TA := fun _ H Q => Q [] H
def tCons (ta : TE) (tr : TA) : TA := fun σ H Q => ta σ H fun x H1 => tr σ H1 fun xs H2 => Q (x :: xs) H2
section
variable {X : Cx} {e : Expr} {es : List Expr} {te : TE} {t : TA} {pos : Pos}
theorem pa_nil : PA X [] tNil := fun _ _ _ _ H Q I h => Calls.spliced_nil ⟨[], H, I, .nil, h⟩
theorem pa_cons (ha : PE X e te) (hr : PA X es t) (hs : starEach (e :: es) X.env = (false, eval e X.env) :: starEach es X.env := by rfl) : PA X (e :: es) (tCons te t) := by
  intro pos pins s σ H Q I h
  rw [hs]
  show wpAny _ _ (spliced ((false, eval e X.env) :: backTo pos (starEach es X.env))) _ _ s
  refine Calls.spliced_cons (thn (ha pins s σ H _ I h) fun u s1 ⟨x, H1, I1, r1, q1⟩ => ?_)
  exact thn (hr pos pins s1 σ H1 _ I1 q1) fun us s2 ⟨xs, H2, I2, r2, q2⟩ => ⟨x :: xs, H2, I2, .cons r1 r2, q2⟩

/-- a tuple, a list of written items -/
def tTup (t : TA) : TE := fun σ H Q => t σ H fun xs H1 => xs.length ≤ sizeLine ∧ ∀ p, H1 p = none → Q (.ref p) (upd H1 p (.tup xs))
def tLst (t : TA) : TE := fun σ H Q => t σ H fun xs H1 => xs.length ≤ sizeLine ∧ ∀ p, H1 p = none → Q (.ref p) (upd H1 p (.lst xs))
theorem pe_tup {x1} (h : PA X es t) : PE X (.Tuple es x1 pos) (tTup t) := by
  intro pins s σ H Q I hq
  refine wpAny_Tuple_spliced (thn (h pos pins s σ H _ I hq) fun us s1 ⟨xs, H1, I1, r, z, q⟩ => ⟨by rw [← r.length]; exact z, ?_⟩)
  have hf : H1 s1.heap.objs.size = none := I1.hok.fresh (Nat.le_refl _)
  refine ⟨.ref s1.heap.objs.size, upd H1 s1.heap.objs.size (.tup xs), I1.laid (t' := s1.toks) (fun b u e => Heap.get?_push_of_some _ e) (Nat.le_refl _) ?_, rfl, q _ hf⟩
  exact ⟨z, us, r, ⟨_, Heap.get?_push_size _ rfl, rfl, _, rfl⟩, _, Heap.get?_push_size _ rfl, rfl⟩
theorem pe_lst (h : PA X es t) : PE X (.List es pos) (tLst t) := by
  intro pins s σ H Q I hq
  refine wpAny_List_spliced (thn (h pos pins s σ H _ I hq) fun us s1 ⟨xs, H1, I1, r, z, q⟩ => ⟨by rw [← r.length]; exact z, ?_⟩)
  have hf : H1 s1.heap.objs.size = none := I1.hok.fresh (Nat.le_refl _)
  refine ⟨.ref s1.heap.objs.size, upd H1 s1.heap.objs.size (.lst xs), I1.laid (t' := s1.toks) (fun b u e => Heap.get?_push_of_some _ e) (Nat.le_refl _) ?_, rfl, q _ hf⟩
  exact ⟨z, us, 0, r, Heap.get?_push_size _ rfl⟩
end

/-! ### what a def promises -/
/-- a def's promise: the bound arguments in the parameters' order, the heap, the wanted end, the wanted exception -/
abbrev Sp := List V → Hp → VK → XK → Prop
/-- how an exception lies behind a call (file 08 gives it): the callers' frames, abstract heap and state ahead of the call, the wish, the exception, the state -/
abbrev CXT := List Env → Hp → Shared → XK → Value → Shared → Prop

/-- the state at a call -/
structure Env0 (P : Program) (w : World) (K : PySem.W.Frag) (mg : Str → Option Value) (base : Heap) (A : Around) (outer : List Env) (s : Shared) (H : Hp) : Prop where
  frames : A.frames = some outer
  mod : Mod K mg base
  bs : ∀ b o, base.get? b = some o → s.heap.get? b = some o ∧ H b = none
  bsz : base.objs.size ≤ s.heap.objs.size
  funs : s.heap.FunFrames base outer
  frf : ∀ b ∈ frs outer, H b = none
  hok : HOk P w H s.heap
  bare : AllBare s.gens
/-- a call's end -/
def CE (outer : List Env) (P : Program) (w : World) (H : Hp) (s : Shared) (Q : VK) (u : Value) (s' : Shared) : Prop :=
  ∃ v H', s'.os = s.os ∧ AllBare s'.gens ∧ Un (frs outer) [] H H' s.heap s'.heap ∧ HOk P w H' s'.heap ∧ RelV v u ∧ Q v H'
def CR (CX : CXT) (outer : List Env) (P : Program) (w : World) (H : Hp) (s : Shared) (Q : VK) (E : XK) (r : Result) (s' : Shared) : Prop :=
  match r with
  | .ok (.ret u) => CE outer P w H s Q u s'
  | .ok _ => False
  | .error e => CX outer H s E e s'
structure FnOk (P : Program) (w : World) (K : PySem.W.Frag) (mg : Str → Option Value) (base : Heap) (CX : CXT) (k : Nat) (f : Addr) (fd : FuncData) (ps : List Str) (sp : Sp) : Prop where
  len : ∀ vs H Q E, sp vs H Q E → vs.length = ps.length
  run : ∀ (A : Around) (outer : List Env) (s : Shared) (H : Hp) (args : Args) (us : List Value) (vs : List V) (Q : VK) (E : XK), Room k A → Env0 P w K mg base A outer s H → BindsTo s fd args (ps.zip us) → Vals vs us → sp vs H Q E →
    codeAny (model P w) A (.call (.ref f) args) (CR CX outer P w H s Q E) s
theorem FnOk.mono {P : Program} {w : World} {K : PySem.W.Frag} {mg : Str → Option Value} {base : Heap} {CX : CXT} {j k : Nat} {f : Addr} {fd : FuncData} {ps : List Str} {sp : Sp} (F : FnOk P w K mg base CX j f fd ps sp) (h : j ≤ k) :
    FnOk P w K mg base CX k f fd ps sp := ⟨F.len, fun A outer s H args us vs Q E hr => F.run A outer s H args us vs Q E (hr.mono h)⟩
/-- a weaker promise -/
theorem FnOk.imp {P : Program} {w : World} {K : PySem.W.Frag} {mg : Str → Option Value} {base : Heap} {CX : CXT} {k : Nat} {f : Addr} {fd : FuncData} {ps : List Str} {sp sp' : Sp} (F : FnOk P w K mg base CX k f fd ps sp)
    (h : ∀ vs H Q E, sp' vs H Q E → sp vs H Q E) : FnOk P w K mg base CX k f fd ps sp' :=
  ⟨fun vs H Q E q => F.len vs H Q E (h _ _ _ _ q), fun A outer s H args us vs Q E hr he hb hv hs => F.run A outer s H args us vs Q E hr he hb hv (h _ _ _ _ hs)⟩

theorem Env0.make {P : Program} {w : World} {K : PySem.W.Frag} {mg : Str → Option Value} {base : Heap} {A : Around} {outer : List Env} {s : Shared} {H : Hp} (e : Env0 P w K mg base A outer s H) (C : Addr) (us : List Value) (kw : List (Str × Value)) :
    Env0 P w K mg base (A.under (.builtin "type.__call__" ⟨.ref C :: us, kw⟩)) outer s H := ⟨by first | exact e.frames | (simpa [Around.under, Code.envs, Code.isFrame, pushEnvs] using e.frames), e.mod, e.bs, e.bsz, e.funs, e.frf, e.hok, e.bare⟩
theorem Env0.in1 {P : Program} {w : World} {K : PySem.W.Frag} {mg : Str → Option Value} {base : Heap} {A : Around} {outer : List Env} {s : Shared} {H : Hp} (e : Env0 P w K mg base A outer s H) :
    Env0 P w K mg base A.in1 outer s H := ⟨e.frames, e.mod, e.bs, e.bsz, e.funs, e.frf, e.hok, e.bare⟩

section
variable {X : Cx} {pins : List (Addr × Obj)} {σ : St} {H : Hp} {s s' : Shared}
/-- from a body: what a callee wants -/
theorem Inv.env0 (I : Inv X pins σ H s) : Env0 X.prog X.w X.K X.mg X.base X.A X.stack s H :=
  ⟨I.ok.frames, I.ok.mod, I.bs, Nat.le_trans I.ok.bsz I.sz, I.stack, I.stkFree, I.hok, I.bare⟩
/-- behind a call -/
theorem Inv.after {Q : VK} {u : Value} (I : Inv X pins σ H s) (h : CE X.stack X.prog X.w H s Q u s') : EP X pins σ Q u s' := by
  obtain ⟨v, H', os, bare, un, hok, r, q⟩ := h
  obtain ⟨hh, g, d, t, os'⟩ := s'
  obtain rfl : os' = s.os := os
  exact ⟨v, H', I.call (h' := hh) (g' := g) (d' := d) (t' := t) (ch := []) un hok bare (fun b z => absurd z (by simp)), r, q⟩
end

/-! ### calls -/
/-- f(..): the written arguments, then the defaults dvs; E: what is wanted of an exception -/
def tCall (sp : Sp) (dvs : List V) (E : XK) (t : TA) : TE := fun σ H Q => t σ H fun vs H1 => sp (vs ++ dvs) H1 Q E

/-- how the parameters are bound: us the positional arguments, kw the keywords' values by name, ds the defaults that fill up -/
def Binds (K : PySem.W.Frag) (fd : FuncData) (ps : List Str) (ds : List Value) : Prop :=
  ∀ (s : Shared) (us : List Value), K.In s.heap → (us ++ ds).length = ps.length → BindsTo s fd ⟨us, []⟩ (ps.zip (us ++ ds))
/-- every parameter is given -/
theorem Binds.all {K : PySem.W.Frag} {fd : FuncData} {ps : List Str} (h : ∀ us : List Value, us.length = ps.length → bindArgs fd ⟨us, []⟩ = pure (ps.zip us)) : Binds K fd ps [] := fun s us _ hl => by
  rw [List.append_nil] at hl ⊢
  exact .of_eq (h us hl)

/-- an exception of a callee reaches what this body wants of exceptions -/
def Passes (CX : CXT) (X : Cx) (E : XK) : Prop := ∀ (pins : List (Addr × Obj)) (σ : St) (H : Hp) (s : Shared) (e : Value) (s' : Shared), Inv X pins σ H s → CX X.stack H s E e s' → X.xe e s'

section
variable {X : Cx} {CX : CXT} {k : Nat} {f C : Addr} {fd : FuncData} {ps : List Str} {sp : Sp} {dvs : List V} {ds : List Value} {E : XK} {x m : Str} {p pos apos : Pos} {e o : Expr} {es : List Expr} {ta : TE} {t : TA}

/-- the callee runs -/
theorem run_fn {pins : List (Addr × Obj)} {σ : St} {H : Hp} {s : Shared} {Q : VK} {us : List Value} {vs : List V} (F : FnOk X.prog X.w X.K X.mg X.base CX k f fd ps sp) (hr : Room k X.A) (hb : Binds X.K fd ps ds) (hd : Vals dvs ds) (hx : Passes CX X E)
    (I : Inv X pins σ H s) (r : Vals vs us) (h : sp (vs ++ dvs) H Q E) : wpAny (model X.prog X.w) X.A (call (.ref f) us) (EP X pins σ Q) X.xe s := by
  have r2 : Vals (vs ++ dvs) (us ++ ds) := r.append hd
  have hl : (us ++ ds).length = ps.length := by rw [← r2.length]; exact F.len _ _ _ _ h
  refine wpAny_call (codeAny_mono (F.run X.A X.stack s H ⟨us, []⟩ (us ++ ds) (vs ++ dvs) Q E hr I.env0 (hb s us I.kIn hl) r2 h) fun r s' hq => ?_)
  cases r with
  | error e => exact hx pins σ H s e s' I hq
  | ok fl =>
    cases fl with
    | ret u => exact I.after hq
    | next => exact False.elim hq
    | brk => exact False.elim hq
    | cont => exact False.elim hq

theorem pe_call (F : FnOk X.prog X.w X.K X.mg X.base CX k f fd ps sp) (hr : Room k X.A) (hg : Gl X x) (hm : X.mg x = some (.ref f)) (hk : PySem.W.keepIn X.K (.ref f) = true) (hb : Binds X.K fd ps ds) (hd : Vals dvs ds) (hx : Passes CX X E)
    (ha : PA X (e :: es) t) (hdb : (x == ("__debug__" : Str)) = false := by decide) (he : starEach (e :: es) X.env = (false, eval e X.env) :: starEach es X.env := by rfl) (hpl : (backTo pos (starEach es X.env)).any (·.1) = false := by rfl) :
    PE X (.Call (.Name x p) (e :: es) [] pos) (tCall sp dvs E t) := by
  intro pins s σ H Q I h
  refine wpAny_Call_Name_kw (ld_glob I hg hm ?_ hdb)
  refine PySem.W.callWith_K (h₀ := X.base) I.ok.mod.kin hk (thn (ha pos pins s σ H _ I h) fun us s1 ⟨vs, H1, I1, r, q⟩ => ⟨I1.kIn, ?_⟩) he hpl
  exact run_fn F hr hb hd hx I1 r q


/-- what a class must have to be made -/
structure Mk (K : PySem.W.Frag) (C f : Addr) : Prop where
  makes : PySem.W.makesIn K C = true
  init : PySem.W.findIn K (.ref C) "__init__" = some (some (.ref f))
  fn : PySem.W.isFn K (.ref f) = true
  kp : PySem.W.keepIn K (.ref C) = true

end

/-! ### keywords -/
/-- the values of the keywords, from the left -/
def PK (X : Cx) (kws : List Keyword) (t : TA) : Prop :=
  ∀ (pos : Pos) (pins : List (Addr × Obj)) (s : Shared) (σ : St) (H : Hp) (Q : List V → Hp → Prop), Inv X pins σ H s → t σ H Q → wpAny (model X.prog X.w) X.A (evalAll ((backToKw pos (keywordEach kws X.env)).map (·.2))) (AP X pins σ Q) X.xe s
section
variable {X : Cx} {CX : CXT} {k : Nat} {f C : Addr} {fd : FuncData} {ps ks : List Str} {sp : Sp} {E : XK} {x m : Str} {p pos apos kpos : Pos} {e o : Expr} {es : List Expr} {kws : List Keyword} {te ta : TE} {t tk : TA} {nm : Option Str}
theorem pk_nil : PK X [] tNil := fun _ _ _ _ H Q I h => wpAny_evalAll_nil ⟨[], H, I, .nil, h⟩
theorem pk_cons (ha : PE X e te) (hr : PK X kws t) : PK X (⟨nm, e, kpos⟩ :: kws) (tCons te t) := by
  intro pos pins s σ H Q I h
  show wpAny _ _ (evalAll ((do let v ← eval e X.env; standAt pos; pure v) :: (backToKw pos (keywordEach kws X.env)).map (·.2))) _ _ s
  refine wpAny_evalAll_cons (wpAny_bind (thn (ha pins s σ H _ I h) fun u s1 ⟨x, H1, I1, r1, q1⟩ => wpAny_bind (wpAny_standAt (wpAny_pure ?_))))
  exact thn (hr pos pins s1 σ H1 _ I1 q1) fun us s2 ⟨xs, H2, I2, r2, q2⟩ => ⟨x :: xs, H2, I2, .cons r1 r2, q2⟩

/-- how a call with keywords binds: g puts the positional values us and the keywords' values ws (names ks) in the parameters' order, defaults among them -/
structure KBinds (K : PySem.W.Frag) (fd : FuncData) (ps ks : List Str) (g : List Value → List Value → List Value) (gV : List V → List V → List V) : Prop where
  to : ∀ (s : Shared) (us ws : List Value), K.In s.heap → (g us ws).length = ps.length → BindsTo s fd ⟨us, ks.zip ws⟩ (ps.zip (g us ws))
  rel : ∀ {vs : List V} {us : List Value} {zs : List V} {ws : List Value}, Vals vs us → Vals zs ws → Vals (gV vs zs) (g us ws)
def tCallK (sp : Sp) (gV : List V → List V → List V) (E : XK) (t tk : TA) : TE := fun σ H Q => t σ H fun vs H1 => tk σ H1 fun zs H2 => sp (gV vs zs) H2 Q E
variable {g : List Value → List Value → List Value} {gV : List V → List V → List V}
theorem run_fnk {pins : List (Addr × Obj)} {σ : St} {H : Hp} {s : Shared} {Q : VK} {us ws : List Value} {vs zs : List V} (F : FnOk X.prog X.w X.K X.mg X.base CX k f fd ps sp) (hr : Room k X.A) (hb : KBinds X.K fd ps ks g gV) (hx : Passes CX X E)
    (I : Inv X pins σ H s) (r : Vals vs us) (rz : Vals zs ws) (h : sp (gV vs zs) H Q E) : wpAny (model X.prog X.w) X.A (call (.ref f) us (ks.zip ws)) (EP X pins σ Q) X.xe s := by
  have r2 := hb.rel r rz
  have hl : (g us ws).length = ps.length := by rw [← r2.length]; exact F.len _ _ _ _ h
  refine wpAny_call (codeAny_mono (F.run X.A X.stack s H ⟨us, ks.zip ws⟩ (g us ws) (gV vs zs) Q E hr I.env0 (hb.to s us ws I.kIn hl) r2 h) fun r s' hq => ?_)
  cases r with
  | error e => exact hx pins σ H s e s' I hq
  | ok fl =>
    cases fl with
    | ret u => exact I.after hq
    | next => exact False.elim hq
    | brk => exact False.elim hq
    | cont => exact False.elim hq
/-- f(e, .., k = v, ..) -/
theorem pe_callK (F : FnOk X.prog X.w X.K X.mg X.base CX k f fd ps sp) (hr : Room k X.A) (hg : Gl X x) (hm : X.mg x = some (.ref f)) (hk : PySem.W.keepIn X.K (.ref f) = true) (hb : KBinds X.K fd ps ks g gV) (hx : Passes CX X E)
    (ha : PA X (e :: es) t) (hkw : PK X kws tk) (hall : (backToKw pos (keywordEach kws X.env)).all (·.1.isSome) = true := by rfl) (hks : (backToKw pos (keywordEach kws X.env)).filterMap (·.1) = ks := by rfl)
    (hdb : (x == ("__debug__" : Str)) = false := by decide) (he : starEach (e :: es) X.env = (false, eval e X.env) :: starEach es X.env := by rfl)
    (hpl : ((backTo pos (starEach (e :: es) X.env)).any (·.1) || (backToKw pos (keywordEach kws X.env)).any (·.1.isNone)) = false := by rfl) :
    PE X (.Call (.Name x p) (e :: es) kws pos) (tCallK sp gV E t tk) := by
  intro pins s σ H Q I h
  refine wpAny_Call_Name_kw (ld_glob I hg hm ?_ hdb)
  refine PySem.W.callWith_KW (h₀ := X.base) I.ok.mod.kin hk hall (thn (ha pos pins s σ H _ I h) fun us s1 ⟨vs, H1, I1, r, q⟩ => ?_) hpl he
  refine thn (hkw pos pins s1 σ H1 _ I1 q) fun ws s2 ⟨zs, H2, I2, rz, q2⟩ => ⟨I2.kIn, ?_⟩
  rw [hks]
  exact run_fnk F hr hb hx I2 r rz q2
end

/-! ### a def's body keeps its promise -/
/-- names: the parameters first -/
structure FnScope (N P : List Str) (sc : Scope) : Prop where
  kind : sc.kind = .function
  co : sc.isCoroutine = false
  gen : sc.isGenerator = false
  nd : N.Nodup
  pre : N.take P.length = P
  par : ∀ x ∈ P, sc.names.lookup x = some .local ∨ sc.names.lookup x = some .cell
  nofree : ∀ y ∈ sc.names, y.2 ≠ .free

theorem bindL_out {kindOf : Str → Option NameKind} {x : Str} : ∀ {binds : List (Str × Value)} {m : Str → Option Value}, (∀ v, (x, v) ∉ binds) → bindL kindOf binds m x = m x
  | [], _, _ => rfl
  | (n, v) :: r, m, h => by
    unfold bindL
    rw [bindL_out fun w hw => h w (List.mem_cons_of_mem _ hw)]
    split
    · have : x ≠ n := by rintro rfl; exact h v List.mem_cons_self
      simp [this]
    · rfl
theorem bindC_out {kindOf : Str → Option NameKind} {x : Str} : ∀ {binds : List (Str × Value)} {m : Str → Option Value}, (∀ v, (x, v) ∉ binds) → bindC kindOf binds m x = m x
  | [], _, _ => rfl
  | (n, v) :: r, m, h => by
    unfold bindC
    rw [bindC_out fun w hw => h w (List.mem_cons_of_mem _ hw)]
    split
    · rfl
    · have : x ≠ n := by rintro rfl; exact h v List.mem_cons_self
      simp [this]
theorem bindL_get {kindOf : Str → Option NameKind} {x : Str} {v : Value} : ∀ {P : List Str} {vs : List Value} {i : Nat} {m : Str → Option Value}, P.Nodup → P[i]? = some x → vs[i]? = some v → kindOf x = some .local →
    bindL kindOf (P.zip vs) m x = some v
  | [], _, _, _, _, h, _, _ => by simp at h
  | _ :: _, [], _, _, _, _, h, _ => by simp at h
  | p :: P, w :: vs, 0, m, nd, h1, h2, hk => by
    simp at h1 h2; subst h1; subst h2
    show bindL kindOf ((p, w) :: P.zip vs) m p = _
    unfold bindL
    rw [bindL_out fun v hv => (List.nodup_cons.mp nd).1 (List.of_mem_zip hv).1, if_pos hk]
    simp
  | p :: P, w :: vs, i + 1, m, nd, h1, h2, hk => by
    show bindL kindOf ((p, w) :: P.zip vs) m x = _
    unfold bindL
    exact bindL_get (i := i) (List.nodup_cons.mp nd).2 (by simpa using h1) (by simpa using h2) hk
theorem bindC_get {kindOf : Str → Option NameKind} {x : Str} {v : Value} : ∀ {P : List Str} {vs : List Value} {i : Nat} {m : Str → Option Value}, P.Nodup → P[i]? = some x → vs[i]? = some v → kindOf x ≠ some .local →
    bindC kindOf (P.zip vs) m x = some v
  | [], _, _, _, _, h, _, _ => by simp at h
  | _ :: _, [], _, _, _, _, h, _ => by simp at h
  | p :: P, w :: vs, 0, m, nd, h1, h2, hk => by
    simp at h1 h2; subst h1; subst h2
    show bindC kindOf ((p, w) :: P.zip vs) m p = _
    unfold bindC
    rw [bindC_out fun v hv => (List.nodup_cons.mp nd).1 (List.of_mem_zip hv).1, if_neg hk]
    simp
  | p :: P, w :: vs, i + 1, m, nd, h1, h2, hk => by
    show bindC kindOf ((p, w) :: P.zip vs) m x = _
    unfold bindC
    exact bindC_get (i := i) (List.nodup_cons.mp nd).2 (by simpa using h1) (by simpa using h2) hk

/-- the names' values at the entry -/
def start (N : List Str) (vs : List V) : St := vs.map some ++ List.replicate (N.length - vs.length) none

/-- the context of a def's body, at its entry; an exception leaves the frame, then lies as CX says -/
def cxOf (CX : CXT) (P : Program) (w : World) (K : PySem.W.Frag) (mg : Str → Option Value) (base : Heap) (N : List Str) (qual : Str) (scope : Scope) (f : Addr) (cd : Value) (A : Around) (outer : List Env) (s : Shared) (H : Hp) (E : XK) : Cx where
  prog := P
  w := w
  K := K
  mg := mg
  base := base
  A := A.deeper (envOfC qual scope s.heap.objs.size f cd)
  N := N
  s_0 := s
  H_0 := H
  env := envOfC qual scope s.heap.objs.size f cd
  outer := outer
  stack := envOfC qual scope s.heap.objs.size f cd :: outer
  ex := []
  calm := true
  fn := fun _ => true
  pn := []
  xe := fun e s' => wpAny (model P w) (A.deeper (envOfC qual scope s.heap.objs.size f cd)) (leaving (envOfC qual scope s.heap.objs.size f cd) e) (fun _ s'' => CX outer H s E e s'') (fun e' s'' => CX outer H s E e' s'') s'

theorem cell_has {sc : Scope} {n : Nat} {x : Str} (h : sc.names.lookup x = some .cell) : ∃ c, (cellsFrom n sc.names []).lookup x = some c := by
  have q := PySem.W.cellsFrom_some sc.names n [] (.inl h)
  exact Option.isSome_iff_exists.mp q

theorem inv_start {CX : CXT} {P : Program} {w : World} {K : PySem.W.Frag} {mg : Str → Option Value} {base : Heap} {N ps : List Str} {qual : Str} {scope : Scope} {f : Addr} {cd : Value} {A : Around} {outer : List Env} {s s1 : Shared} {H : Hp} {E : XK} {us : List Value} {vs : List V}
    (S : FnScope N ps scope) (hd : A.handled = none) (e0 : Env0 P w K mg base A outer s H) (hl : vs.length = ps.length) (r : Vals vs us)
    (x : InCallC s s.heap.objs.size (bindL (envOfC qual scope s.heap.objs.size f cd).kindOf (ps.zip us) fun _ => none) (cellsFrom (s.heap.objs.size + 1) scope.names []) (bindC (envOfC qual scope s.heap.objs.size f cd).kindOf (ps.zip us) fun _ => none) s1) :
    Inv (cxOf CX P w K mg base N qual scope f cd A outer s H E) [] (start N vs) H s1 := by
  have hpl : ps.length ≤ N.length := by have := congrArg List.length S.pre; rw [List.length_take] at this; omega
  obtain ⟨h1, tk, rfl, hk⟩ := x.done
  have noA : ∀ b : Addr, b ∉ (cxOf CX P w K mg base N qual scope f cd A outer s H E).ex := fun b z => absurd (show b ∈ ([] : List Addr) from z) (by simp)
  refine ⟨⟨e0.mod, S.kind, rfl, rfl, Nat.le_refl _, fun y z c h1 h2 => ?_, fun y hy => ?_, fun y c _ h => ?_, fun _ => hd, Around.frames_deeper e0.frames, .inr ⟨rfl, rfl⟩, fun b z => absurd z (noA b), e0.bs, e0.bsz, fun b _ _ => noA b, fun b z => absurd z (noA b), e0.funs, e0.frf⟩,
    rfl, e0.bare, Un.kept hk, ⟨_, x.toInCall.ns, fun i y v h1 h2 h3 => ?_⟩, fun y c h => ⟨_, x.cell y c h⟩, e0.hok.fresh (Nat.le_refl _), fun y c h => ?_, fun p hp => absurd (show p ∈ ([] : List (Addr × Obj)) from hp) (by simp), e0.hok.kept hk, ?_⟩
  · exact name_of_addr x.apart (PySem.mem_of_lookup h1) (PySem.mem_of_lookup h2)
  · have hy : scope.names.lookup y = some .cell ∨ scope.names.lookup y = some .free := hy
    rcases hy with hy | hy
    · exact cell_has hy
    · exact absurd rfl (S.nofree _ (PySem.mem_of_lookup hy))
  · exact Nat.le_of_lt (x.above y c (PySem.mem_of_lookup h))
  · have hi : i < vs.length := by
      unfold start at h2
      by_cases hi : i < vs.length
      · exact hi
      · rw [List.getElem?_append_right (by simpa using hi)] at h2
        rw [List.getElem?_replicate] at h2
        split at h2 <;> cases h2
    have ha : vs[i]? = some v := by
      unfold start at h2
      rw [List.getElem?_append_left (by simpa using hi), List.getElem?_map] at h2
      cases e : vs[i]? with
      | none => rw [e] at h2; cases h2
      | some a => rw [e] at h2; cases h2; rfl
    obtain ⟨u, hu, rv⟩ := r.get ha
    have hp : ps[i]? = some y := by
      rw [← S.pre, List.getElem?_take_of_lt (by omega)]; exact h1
    have ndP : ps.Nodup := by rw [← S.pre]; exact S.nd.sublist (List.take_sublist _ _)
    refine ⟨u, rv, ?_⟩
    rcases S.par y (List.mem_of_getElem? hp) with k | k
    · exact .inl ⟨k, bindL_get ndP hp hu k⟩
    · obtain ⟨c, e⟩ := cell_has (n := s.heap.objs.size + 1) k
      refine .inr ⟨.inl k, c, e, ?_⟩
      have q := x.cell y c e
      rw [bindC_get ndP hp hu (by show scope.names.lookup y ≠ _; rw [k]; decide)] at q
      exact q
  · exact e0.hok.fresh (Nat.le_of_lt (x.above y c (PySem.mem_of_lookup h)))
  · unfold start
    show _ = N.length
    rw [List.length_append, List.length_map, List.length_replicate]
    omega

/-- THE RULE: a def (or a method) of the text, by its body. The body's reading t is chosen for each entry; it is run at the parameters' values -/
theorem fn_of {CX : CXT} {P : Program} {w : World} {K : PySem.W.Frag} {mg : Str → Option Value} {base : Heap} {k : Nat} {f : Addr} {name qual : Str} {params : Arguments} {body : List Stmt} {scope : Scope} {dV kV doc pm cdv ct oc : Value} {an od : Option Addr}
    {osl : Array (Option Value)} {N ps : List Str} {sp : Sp} (lk : K.lookup f = some ⟨oc, od, .func (PySem.W.fnOf name qual params body scope dV kV doc pm an cdv ct), osl⟩) (hcd : PySem.W.codeIn K cdv qual = true) (S : FnScope N ps scope)
    (len : ∀ vs H Q E, sp vs H Q E → vs.length = ps.length)
    (hbody : ∀ (A : Around) (outer : List Env) (s : Shared) (H : Hp) (vs : List V) (Q : VK) (E : XK), Room k (A.deeper (envOfC qual scope s.heap.objs.size f cdv)) → sp vs H Q E →
      ∃ t, PSs (cxOf CX P w K mg base N qual scope f cdv A outer s H E) body t ∧ t { nx := fun _ H' => Q .non H', rt := Q } (start N vs) H) :
    FnOk P w K mg base CX (k + 1) f (PySem.W.fnOf name qual params body scope dV kV doc pm an cdv ct) ps sp := by
  refine ⟨len, fun A outer s H args us vs Q E hr e0 hb r hsp => ?_⟩
  have hl := len _ _ _ _ hsp
  have KX : K.In s.heap := e0.mod.kin.keeps fun b o e => (e0.bs b o e).1
  have lim : s.heap.NoLimit := e0.mod.nolimit.keeps fun b o e => (e0.bs b o e).1
  have hkind : ∀ y ∈ ps.zip us, scope.names.lookup y.1 = some .local ∨ (scope.names.lookup y.1 = some .cell ∧ ((cellsFrom (s.heap.objs.size + 1) scope.names []).lookup y.1).isSome = true) := fun ⟨n, v⟩ hy => by
    rcases S.par n (List.of_mem_zip hy).1 with q | q
    · exact .inl q
    · exact .inr ⟨q, PySem.W.cellsFrom_some _ _ _ (.inl q)⟩
  refine codeAny_call_function hr.depth (KX _ _ lk) rfl S.co S.gen rfl (PySem.W.codeRec_of KX hcd) (hb _ _ _ _ ?_)
  refine wpAny_newFunctionEnv_cells S.kind hkind fun env he s1 x => ?_
  subst he
  refine ⟨lim.keeps x.toInCall.keep, codeAny_func ?_⟩
  obtain ⟨t, ht, hq⟩ := hbody A outer s H vs Q E (hr.deeper _) hsp
  have I : Inv (cxOf CX P w K mg base N qual scope f cdv A outer s H E) [] (start N vs) H s1 := inv_start S hr.hd e0 hl r x
  refine wpAny_mono (ht [] s1 (start N vs) H _ I hq) (fun fl s' hs => ?_) fun e s' hs => hs
  have fin : ∀ {σ' : St} {H' : Hp} {v : V} {u : Value}, Inv (cxOf CX P w K mg base N qual scope f cdv A outer s H E) [] σ' H' s' → RelV v u → Q v H' → CE outer P w H s Q u s' :=
    fun {σ' H' v u} J rv q => ⟨v, H', J.os, J.bare, J.base, J.hok, rv, q⟩
  cases fl with
  | ret u =>
    obtain ⟨v, σ', H', J, rv, q⟩ := hs
    exact fin J rv q
  | next =>
    obtain ⟨σ', H', J, q⟩ := hs
    exact fin (v := V.non) (u := Value.none) J rfl q
  | brk =>
    obtain ⟨_, _, _, q⟩ := hs
    exact False.elim q
  | cont =>
    obtain ⟨_, _, _, q⟩ := hs
    exact False.elim q
end L2

namespace L2
open PySem PySem.Spec PyProof.Rows
section
variable {X : Cx} {x : Str} {p pos : Pos} {e : Expr} {es : List Expr} {t : TA} {id T : String} {r : List V → Hp → VK → Prop}

def tCB (r : List V → Hp → VK → Prop) (t : TA) : TE := fun σ H Q => t σ H fun vs H1 => r vs H1 Q
/-- f(e, ..), f a built-in function -/
theorem pe_callB (hc : CallR X (.builtin id) r) (hg : Gl X x) (hm : X.mg x = none) (hv : bootBuiltins x = some (.builtin id)) (ha : PA X (e :: es) t) (hn : x ≠ "__name__" := by decide) (hdb : (x == ("__debug__" : Str)) = false := by decide)
    (he : starEach (e :: es) X.env = (false, eval e X.env) :: starEach es X.env := by rfl) (hpl : (backTo pos (starEach es X.env)).any (·.1) = false := by rfl) : PE X (.Call (.Name x p) (e :: es) [] pos) (tCB r t) := by
  intro pins s σ H Q I h
  refine wpAny_Call_Name_kw (ld_blt I hg hm hv ?_ hn hdb)
  exact PyProof.Rows.callWith_builtin1 (thn (ha pos pins s σ H _ I h) fun us s1 ⟨vs, H1, I1, r1, q1⟩ => hc pins s1 σ H1 vs us Q I1 r1 q1) he hpl
/-- T(e, ..), T a built-in type -/
theorem pe_callTy (hc : CallR X (.type T) r) (hg : Gl X x) (hm : X.mg x = none) (hv : bootBuiltins x = some (.type T)) (ha : PA X (e :: es) t) (hn : x ≠ "__name__" := by decide) (hdb : (x == ("__debug__" : Str)) = false := by decide)
    (he : starEach (e :: es) X.env = (false, eval e X.env) :: starEach es X.env := by rfl) (hpl : (backTo pos (starEach es X.env)).any (·.1) = false := by rfl) : PE X (.Call (.Name x p) (e :: es) [] pos) (tCB r t) := by
  intro pins s σ H Q I h
  refine wpAny_Call_Name_kw (ld_blt I hg hm hv ?_ hn hdb)
  exact PyProof.Rows.callWith_type1 (thn (ha pos pins s σ H _ I h) fun us s1 ⟨vs, H1, I1, r1, q1⟩ => hc pins s1 σ H1 vs us Q I1 r1 q1) he hpl
end
end L2

namespace HT
open PySem PyProof.Rows



section
open PySem.SeqAt
open PySem.AutoSeq1 (wpAny_loadPart')
open PySem.MeetsSeq PySem.MeetsSeq2 PySem.MeetsSeq3

end

section
variable {prog : Program} {w : World} {A : Around} {E : Value → Shared → Prop} {s : Shared}



/-! ### t[a:b], not the whole -/
/-- a slice's bound as a place among n (d where it is left out) -/
def sIx (n d : Nat) : Option Int → Nat
  | none => d
  | some v => if v < 0 then (v + (n : Int)).toNat else min v.toNat n

end
end HT

namespace L2
open PySem PySem.Spec PyProof.Rows

/-! ### the parts of a slice -/
abbrev TO := St → Hp → (Option Int → Hp → Prop) → Prop
/-- a slice's part (left out, or an int) -/
def PO (X : Cx) (e : Option Expr) (t : TO) : Prop :=
  ∀ (pins : List (Addr × Obj)) (s : Shared) (σ : St) (H : Hp) (Q : Option Int → Hp → Prop), Inv X pins σ H s → t σ H Q →
    wpAny (model X.prog X.w) X.A (evalPart e X.env) (fun u s' => ∃ o H', Inv X pins σ H' s' ∧ IsPart u o ∧ Q o H') X.xe s
def tNoPart : TO := fun _ H Q => Q none H
def tPart (t : TE) : TO := fun σ H Q => t σ H fun x H1 => ∃ i, x = .int i ∧ Q (some i) H1


section
variable {X : Cx} {e : Expr} {te : TE} {lo hi : Option Expr} {tl th : TO} {pos p2 : Pos}

theorem po_none : PO X none tNoPart := by
  intro pins s σ H Q I h
  rw [evalPart_none]
  exact wpAny_pure ⟨none, H, I, .none, h⟩
theorem po_some (h : PE X e te) : PO X (some e) (tPart te) := by
  intro pins s σ H Q I hw
  rw [evalPart_some]
  refine thn (h pins s σ H _ I hw) fun u s1 ⟨x, H1, I1, r1, q1⟩ => ?_
  obtain ⟨i, rfl, q⟩ := q1
  obtain ⟨t, rfl⟩ := r1
  exact ⟨some i, H1, I1, .int i t, q⟩

/-- what a slice of a value is, by values: the slice object stands at sl -/
def SlR (X : Cx) (r : V → Option Int → Option Int → Hp → VK → Prop) : Prop :=
  ∀ (pins : List (Addr × Obj)) (s : Shared) (σ : St) (H : Hp) (x : V) (v vl vu : Value) (lo hi : Option Int) (sl : Addr) (Q : VK), Inv X pins σ H s → RelV x v → s.heap.IsSliceOf sl vl vu .none → IsPart vl lo → IsPart vu hi → r x lo hi H Q →
    ∃ T id, typeLookup (.type T) "__getitem__" = pure (some (.builtin id)) ∧ s.TypeIs v T ∧ wpAny (model X.prog X.w) X.A (getItem v (.ref sl)) (EP X pins σ Q) X.xe s
theorem SlR.or {r r' : V → Option Int → Option Int → Hp → VK → Prop} (h : SlR X r) (h' : SlR X r') : SlR X (fun x lo hi H Q => r x lo hi H Q ∨ r' x lo hi H Q) := by
  intro pins s σ H x v vl vu lo hi sl Q I rx hs pl pu q
  rcases q with q | q
  · exact h pins s σ H x v vl vu lo hi sl Q I rx hs pl pu q
  · exact h' pins s σ H x v vl vu lo hi sl Q I rx hs pl pu q
def tSl (r : V → Option Int → Option Int → Hp → VK → Prop) (te : TE) (tl th : TO) : TE := fun σ H Q => te σ H fun x H1 => tl σ H1 fun l H2 => th σ H2 fun u H3 => r x l u H3 Q
/-- a[lo:hi], any a -/
theorem pe_slice {r : V → Option Int → Option Int → Hp → VK → Prop} (hr : SlR X r) (he : PE X e te) (hl : PO X lo tl) (hu : PO X hi th) : PE X (.Subscript e (.Slice lo hi none p2) pos) (tSl r te tl th) := by
  intro pins s σ H Q I h
  refine Subscript_ (thn (he pins s σ H _ I h) fun v s1 ⟨x, H1, I1, r1, q1⟩ => ?_)
  refine wpAny_Slice (thn (hl pins s1 σ H1 _ I1 q1) fun vl s2 ⟨l, H2, I2, pl, q2⟩ => thn (hu pins s2 σ H2 _ I2 q2) fun vu s3 ⟨u, H3, I3, pu, q3⟩ => ?_)
  rw [evalPart_none]
  refine wpAny_pure ?_
  have I4 : Inv X pins σ H3 { s3 with heap := s3.heap.push { cls := .type "slice", data := .fields #[vl, vu, .none] } } := I3.kept (t' := s3.toks) fun b ob q => Heap.get?_push_of_some _ q
  obtain ⟨T, id, hT, ht, hg⟩ := hr pins { s3 with heap := s3.heap.push { cls := .type "slice", data := .fields #[vl, vu, .none] } } σ H3 x v vl vu l u s3.heap.objs.size Q I4 r1 (Heap.IsSliceOf.new ..) pl pu q3
  show wpAny (model X.prog X.w) X.A (subscriptTail e (.Slice lo hi none p2) v (.ref s3.heap.objs.size)) (EP X pins σ Q) X.xe { s3 with heap := s3.heap.push { cls := .type "slice", data := .fields #[vl, vu, .none] } }
  exact tail_any (ops := [.ref s3.heap.objs.size, v]) ht hT hg (by with_unfolding_all rfl)

/-- the items of xs[lo:hi] -/
def cutV (xs : List V) (lo hi : Option Int) : List V := (xs.drop (HT.sIx xs.length 0 lo)).take (HT.sIx xs.length xs.length hi - HT.sIx xs.length 0 lo)
theorem cutV_length (xs : List V) (lo hi : Option Int) : (cutV xs lo hi).length ≤ xs.length := by
  unfold cutV
  rw [List.length_take, List.length_drop]
  omega

/-! ### t < u, t + u -/
theorem Vals.nil_iff {xs : List V} {us : List Value} (r : Vals xs us) : us = [] ↔ xs = [] := by
  cases r with
  | nil => simp
  | cons _ _ => simp
end
end L2

namespace L2
open PySem PySem.Spec PyProof.Rows

/-! ### places -/
/-- the place that an index of any sign means -/
def ixN (n : Nat) (i : Int) : Option Nat := if 0 ≤ i then (if i < n then some i.toNat else none) else if -(n : Int) ≤ i then some (i + n).toNat else none
def atI {α : Type} (xs : List α) (i : Int) : Option α := (ixN xs.length i).bind fun j => xs[j]?
theorem ixN_seq {n : Nat} {i : Int} {j : Nat} (h : ixN n i = some j) : seqIndex? i n = some j ∧ j < n ∧ -(n : Int) ≤ i ∧ i < n := by
  unfold ixN at h
  by_cases h0 : 0 ≤ i
  · rw [if_pos h0] at h
    by_cases h1 : i < n
    · rw [if_pos h1] at h
      have e : i.toNat = j := Option.some.inj h
      exact ⟨by rw [seqIndex_of h0 h1, e], by omega, by omega, h1⟩
    · rw [if_neg h1] at h; cases h
  · rw [if_neg h0] at h
    by_cases h1 : -(n : Int) ≤ i
    · rw [if_pos h1] at h
      have e : (i + n).toNat = j := Option.some.inj h
      exact ⟨by rw [seqIndex_neg (by omega) h1, e], by omega, h1, by omega⟩
    · rw [if_neg h1] at h; cases h
theorem atI_get {α : Type} {xs : List α} {i : Int} {v : α} (h : atI xs i = some v) : ∃ j, seqIndex? i xs.length = some j ∧ xs[j]? = some v ∧ j < xs.length ∧ -(xs.length : Int) ≤ i ∧ i < xs.length := by
  unfold atI at h
  cases e : ixN xs.length i with
  | none => rw [e] at h; cases h
  | some j =>
    rw [e] at h
    obtain ⟨h1, h2, h3, h4⟩ := ixN_seq e
    exact ⟨j, h1, h, h2, h3, h4⟩
theorem atI_nat {α : Type} {xs : List α} {j : Nat} {v : α} (h : xs[j]? = some v) : atI xs (j : Int) = some v := by
  have hj : j < xs.length := (List.getElem?_eq_some_iff.mp h).1
  have e : ixN xs.length (j : Int) = some j := by
    unfold ixN
    rw [if_pos (by omega), if_pos (by omega)]; simp
  unfold atI; rw [e]; exact h
theorem atI_last {α : Type} (xs : List α) (v : α) : atI (xs ++ [v]) (-1) = some v := by
  have hl : (xs ++ [v]).length = xs.length + 1 := by simp
  have e : ixN (xs ++ [v]).length (-1) = some xs.length := by
    unfold ixN
    rw [hl, if_neg (by decide), if_pos (by omega)]
    congr 1
    omega
  unfold atI
  rw [e]
  show (xs ++ [v])[xs.length]? = some v
  simp

/-! ### what may be subscripted -/
/-- what stands as an index of a plain subscript -/
def PlainIx (b : Expr) : Prop := ∀ o i, subscripted b false o i = operate [o, i] (getItem o i)
/-- a subscript by values -/
def IxR (X : Cx) (r : R2) : Prop :=
  ∀ (value slice : Expr) (pins : List (Addr × Obj)) (s : Shared) (σ : St) (H : Hp) (x y : V) (v u : Value) (Q : VK), Inv X pins σ H s → RelV x v → RelV y u → r x y H Q →
    subscripted slice false v u = operate [v, u] (getItem v u) → wpAny (model X.prog X.w) X.A (subscriptTail value slice v u) (EP X pins σ Q) X.xe s
/-- a call of a builtin's method by values: the receiver, the arguments -/
def MtR (X : Cx) (id : String) (r : V → List V → Hp → VK → Prop) : Prop :=
  ∀ (pins : List (Addr × Obj)) (s : Shared) (σ : St) (H : Hp) (x : V) (xs : List V) (v : Value) (us : List Value) (Q : VK), Inv X pins σ H s → RelV x v → Vals xs us → r x xs H Q →
    wpAny (model X.prog X.w) X.A (call (.builtin id) (v :: us)) (EP X pins σ Q) X.xe s
section
variable {X : Cx} {a b : Expr} {ta tb : TE} {pos : Pos}
theorem IxR.or {r r' : R2} (h : IxR X r) (h' : IxR X r') : IxR X (fun x y H Q => r x y H Q ∨ r' x y H Q) := by
  intro value slice pins s σ H x y v u Q I rx ry q hs
  rcases q with q | q
  · exact h value slice pins s σ H x y v u Q I rx ry q hs
  · exact h' value slice pins s σ H x y v u Q I rx ry q hs
theorem MtR.or {id : String} {r r' : V → List V → Hp → VK → Prop} (h : MtR X id r) (h' : MtR X id r') : MtR X id (fun x xs H Q => r x xs H Q ∨ r' x xs H Q) := by
  intro pins s σ H x xs v us Q I rx rs q
  rcases q with q | q
  · exact h pins s σ H x xs v us Q I rx rs q
  · exact h' pins s σ H x xs v us Q I rx rs q
/-- a[b] -/
theorem pe_ix {r : R2} (hr : IxR X r) (ha : PE X a ta) (hb : PE X b tb) (hs : PlainIx b) : PE X (.Subscript a b pos) (tOp r ta tb) := by
  intro pins s σ H Q I h
  exact Subscript_ (binT ha hb I h fun v u s2 x y H2 I2 rx ry q => hr a b pins s2 σ H2 x y v u Q I2 rx ry q (hs _ _))

def rIxL (K : PySem.W.Frag) : R2 := fun x y H Q => ∃ p xs i v, x = .ref p ∧ y = .int i ∧ SqL K H p xs ∧ atI xs i = some v ∧ Q v H
def rIxT (K : PySem.W.Frag) : R2 := fun x y H Q => ∃ p xs i v, x = .ref p ∧ y = .int i ∧ SqT K H p xs ∧ atI xs i = some v ∧ Q v H
def rIxS : R2 := fun x y H Q => ∃ z i c, x = .str z ∧ y = .int i ∧ z.length ≤ sizeLine ∧ atI z.cps.toList i = some c ∧ Q (.str ⟨#[c]⟩) H
theorem ix_list : IxR X (rIxL X.K) := by
  intro value slice pins s σ H x y v u Q I rx ry h hs
  obtain ⟨p, xs, i, z, rfl, rfl, hq, he, q⟩ := h
  cases rx
  obtain ⟨t, rfl⟩ := ry
  obtain ⟨its, r, pl, hz⟩ := I.list hq
  obtain ⟨j, h1, h2, h3, h4, h5⟩ := atI_get he
  obtain ⟨w, ew, rw'⟩ := r.get h2
  have hl := r.length
  have hn := line63
  have fin : EP X pins σ Q w s := ⟨z, H, I, rw', q⟩
  by_cases h0 : 0 ≤ i
  · have hj : i.toNat = j := by
      rw [seqIndex_of h0 h5] at h1
      exact Option.some.inj h1
    exact item_listR pl.isList h0 (by omega) (by rw [hj]; simpa using ew) fin hs
  · have hj : (i + (its.toArray.size : Int)).toNat = j := by
      rw [seqIndex_neg (by omega) h4] at h1
      rw [List.size_toArray, ← hl]
      exact Option.some.inj h1
    exact subscriptTail_builtinR (x := w) pl.isList.typeIs slot_list_getitem.lookup
      (wpAny_getItem_list_neg (Q := fun r s' => r = w ∧ EP X pins σ Q r s') pl.isList (by omega) (by rw [List.size_toArray] <;> omega) (by omega) (by rw [hj]; simpa using ew) ⟨rfl, fin⟩) hs
theorem ix_tup : IxR X (rIxT X.K) := by
  intro value slice pins s σ H x y v u Q I rx ry h hs
  obtain ⟨p, xs, i, z, rfl, rfl, hq, he, q⟩ := h
  cases rx
  obtain ⟨t, rfl⟩ := ry
  obtain ⟨its, r, pl, hz⟩ := I.tuple hq
  obtain ⟨j, h1, h2, h3, h4, h5⟩ := atI_get he
  obtain ⟨w, ew, rw'⟩ := r.get h2
  have hl := r.length
  have hn := line63
  have fin : EP X pins σ Q w s := ⟨z, H, I, rw', q⟩
  exact subscriptTail_builtinR (x := w) pl.typeIs slot_tuple_getitem.lookup
    (getItem_tuple (j := j) (Q := fun r s' => r = w ∧ EP X pins σ Q r s') pl (by omega) (by omega) (by rw [List.size_toArray, ← hl]; exact h1) (by simpa using ew) ⟨rfl, fin⟩) hs
theorem ix_str : IxR X rIxS := by
  intro value slice pins s σ H x y v u Q I rx ry h hs
  obtain ⟨z, i, c, rfl, rfl, hz, he, q⟩ := h
  obtain ⟨t, rfl⟩ := rx
  obtain ⟨t', rfl⟩ := ry
  obtain ⟨j, h1, h2, h3, h4, h5⟩ := atI_get he
  have hl : z.cps.toList.length = z.length := by simp [Str.length]
  rw [hl] at h1 h4 h5
  have hn := line63
  exact tail_any (typeIs_str s z t) slot_str_getitem.lookup (getItem_str (c := c) (by
    have e1 : decide (i < -(2 ^ 63 : Int)) = false := decide_eq_false (by omega)
    have e2 : decide (i ≥ 2 ^ 63) = false := decide_eq_false (by omega)
    rw [e1, e2, Bool.or_false]) (by rw [h1]; simpa using h2) ⟨.str ⟨#[c]⟩, H, I.tok _, ⟨_, rfl⟩, q⟩) hs

/-! ### xs[i] = v, any sign -/
/-- the list's object behind a store -/
theorem mapSeq_set (its : List Value) (n j : Nat) (u : Value) : Obj.mapSeq (·.setIfInBounds j u) { cls := .type "list", data := .seq its.toArray n } = { cls := .type "list", data := .seq (its.set j u).toArray n } := by
  simp [Obj.mapSeq]
theorem Inv.lst {pins : List (Addr × Obj)} {σ : St} {H : Hp} {s : Shared} {p : Addr} {xs : List V} (I : Inv X pins σ H s) (h : H p = some (.lst xs)) :
    ∃ (its : List Value) (n : Nat), Vals xs its ∧ s.heap.get? p = some { cls := .type "list", data := .seq its.toArray n } ∧ xs.length ≤ sizeLine := by
  obtain ⟨z, its, n, r, e⟩ := I.hok p _ h
  exact ⟨its, n, r, e, z⟩
/-- the list at p is written by an update of its object -/
theorem Inv.lstUpd {pins : List (Addr × Obj)} {σ : St} {H : Hp} {s : Shared} {p : Addr} {xs ys : List V} {its its' : List Value} {n n' : Nat} {f : Obj → Obj} (I : Inv X pins σ H s) (h : H p = some (.lst xs))
    (ho : s.heap.get? p = some { cls := .type "list", data := .seq its.toArray n }) (hf : f { cls := .type "list", data := .seq its.toArray n } = { cls := .type "list", data := .seq its'.toArray n' }) (r : Vals ys its') (hz : ys.length ≤ sizeLine) (t : Nat) :
    Inv X pins σ (upd H p (.lst ys)) { s with heap := s.heap.update p f, toks := t } := by
  have e : (s.heap.update p f).get? p = some { cls := .type "list", data := .seq its'.toArray n' } := by
    rw [Heap.get?_update_self f ho (by rw [hf] <;> rfl), hf]
  refine I.write (x := p) (e := p) (by rw [h]; trivial) (.inl rfl) (fun b u hb q => (Heap.get?_update_other _ _ (Ne.symm hb)).trans q) ⟨_, e⟩ ?_
  exact ⟨hz, its', n', r, e⟩
def rSetL : V → V → V → Hp → (Hp → Prop) → Prop := fun o i v H Q => ∃ p xs k j, o = .ref p ∧ i = .int k ∧ H p = some (.lst xs) ∧ ixN xs.length k = some j ∧ Q (upd H p (.lst (xs.set j v)))
theorem set_list : PSet X rSetL := by
  intro pins s σ H o i v ov iv u Q I ro ri rv h
  obtain ⟨p, xs, k, j, rfl, rfl, hp, hj, q⟩ := h
  cases ro
  obtain ⟨t, rfl⟩ := ri
  obtain ⟨its, n, r, ho, hz⟩ := I.lst hp
  obtain ⟨h1, h2, h3, h4⟩ := ixN_seq hj
  have hl := r.length
  have hn := line63
  have I' : Inv X pins σ (upd H p (.lst (xs.set j v))) { s with heap := s.heap.update p (Obj.mapSeq (·.setIfInBounds j u)) } :=
    I.lstUpd hp ho (mapSeq_set its n j u) (r.set rv j) (by rw [List.length_set]; exact hz) s.toks
  by_cases h0 : 0 ≤ k
  · have hk : k.toNat = j := by
      rw [seqIndex_of h0 h4] at h1
      exact Option.some.inj h1
    exact PySem.W.ki_setAt ho h0 (by omega) (by rw [List.size_toArray, ← hl]; exact h4) (by rw [hk]; exact ⟨_, I', q⟩)
  · have hk : (k + (its.toArray.size : Int)).toNat = j := by
      rw [seqIndex_neg (by omega) h3] at h1
      rw [List.size_toArray, ← hl]
      exact Option.some.inj h1
    exact PySem.W.ki_setBack ho (by omega) (by rw [List.size_toArray, ← hl]; exact h3) (by omega) (by rw [hk]; exact ⟨_, I', q⟩)

/-! ### slices -/
theorem slice_bounds (lo hi : Option Int) (n : Nat) : (sliceBounds lo hi none n).1 = ((HT.sIx n 0 lo : Nat) : Int) ∧ (sliceBounds lo hi none n).2.1 = ((HT.sIx n n hi : Nat) : Int) ∧ (sliceBounds lo hi none n).2.2 = 1 := by
  refine ⟨?_, ?_, rfl⟩
  · cases lo with
    | none => simp [sliceBounds, HT.sIx]
    | some i =>
      simp only [sliceBounds, HT.sIx, Option.getD_none, show (1 : Int) > 0 by decide, if_true]
      by_cases h : i < 0
      · simp only [h, if_true] <;> omega
      · simp only [h, if_false] <;> omega
  · cases hi with
    | none => simp [sliceBounds, HT.sIx]
    | some i =>
      simp only [sliceBounds, HT.sIx, Option.getD_none, show (1 : Int) > 0 by decide, if_true]
      by_cases h : i < 0
      · simp only [h, if_true] <;> omega
      · simp only [h, if_false] <;> omega
theorem slicePick_cut (its : List Value) (lo hi : Option Int) : slicePick its.toArray lo hi none = ((its.drop (HT.sIx its.length 0 lo)).take (HT.sIx its.length its.length hi - HT.sIx its.length 0 lo)).toArray := by
  obtain ⟨h1, h2, h3⟩ := slice_bounds lo hi its.toArray.size
  unfold slicePick
  rw [h1, h2, h3]
  simp only [sliceRange_one, pick_run, List.size_toArray] <;> rfl
/-- xs[lo:hi] of a list: a new list -/
def rSlL (K : PySem.W.Frag) : V → Option Int → Option Int → Hp → VK → Prop := fun x lo hi H Q => ∃ a xs, x = .ref a ∧ SqL K H a xs ∧ ∀ p, H p = none → Q (.ref p) (upd H p (.lst (cutV xs lo hi)))
theorem sl_list : SlR X (rSlL X.K) := by
  intro pins s σ H x v vl vu lo hi sl Q I rx hs pl pu h
  obtain ⟨a, xs, rfl, hx, q⟩ := h
  cases rx
  obtain ⟨its, r, ht, hz⟩ := I.list hx
  have hlen := r.length
  refine ⟨"list", _, slot_list_getitem.lookup, ht.isList.typeIs, ?_⟩
  refine wpAny_getItem_list_slice ht.isList hs pl pu .none (by simp) ?_ (by rw [List.size_toArray] <;> omega)
  rw [slicePick_cut, ← hlen]
  refine ⟨.ref s.heap.objs.size, _, I.laid (t' := s.toks) (o := .lst (cutV xs lo hi)) (fun b ob q => Heap.get?_push_of_some _ q) (Nat.le_refl _) ?_, rfl, q _ (I.hok.fresh (Nat.le_refl _))⟩
  exact ⟨Nat.le_trans (cutV_length xs lo hi) hz, _, 0, (r.drop (HT.sIx xs.length 0 lo)).take (HT.sIx xs.length xs.length hi - HT.sIx xs.length 0 lo), Heap.get?_push_size _ rfl⟩

/-! ### in, not in: flat items -/

/-! ### len, list(x), tuple(x) of any list or tuple that is read -/
theorem call_len_seq : CallR X (.builtin "len") (fun xs H Q => ∃ p ys, xs = [.ref p] ∧ (SqL X.K H p ys ∨ SqT X.K H p ys) ∧ Q (.int ys.length) H) := by
  intro pins s σ H xs us Q I r h
  obtain ⟨p, ys, rfl, hq, q⟩ := h
  obtain ⟨u, rfl, rx⟩ := vals1 r
  cases rx
  have hn := line63
  rcases hq with hq | hq
  · obtain ⟨its, r', pl, hz⟩ := I.list hq
    have hlen := r'.length
    exact Calls.call_len_list pl.isList (by simp only [List.size_toArray] <;> omega) ⟨.int ys.length, H, I.tok _, ⟨s.toks + 1, by rw [List.size_toArray, hlen]⟩, q⟩
  · obtain ⟨its, r', pl, hz⟩ := I.tuple hq
    have hlen := r'.length
    exact len_tuple pl (by simp only [List.size_toArray] <;> omega) ⟨.int ys.length, H, I.tok _, ⟨s.toks + 1, by rw [List.size_toArray, hlen]⟩, q⟩
theorem CallR.or {f : Value} {r r' : List V → Hp → VK → Prop} (h : CallR X f r) (h' : CallR X f r') : CallR X f (fun xs H Q => r xs H Q ∨ r' xs H Q) := by
  intro pins s σ H xs us Q I rs q
  rcases q with q | q
  · exact h pins s σ H xs us Q I rs q
  · exact h' pins s σ H xs us Q I rs q
theorem call_list_of : CallR X (.type "list") (fun xs H Q => ∃ p ys, xs = [.ref p] ∧ (SqL X.K H p ys ∨ SqT X.K H p ys) ∧ ∀ l, H l = none → Q (.ref l) (upd H l (.lst ys))) := by
  intro pins s σ H xs us Q I r h
  obtain ⟨p, ys, rfl, hq, q⟩ := h
  obtain ⟨u, rfl, rx⟩ := vals1 r
  cases rx
  have fin : ∀ (its : List Value), Vals ys its → ys.length ≤ sizeLine → ∀ (h' : Heap) (c' : Nat), (∀ b o', s.heap.get? b = some o' → h'.get? b = some o') →
      h'.get? s.heap.objs.size = some { cls := .type "list", dict := none, data := .seq its.toArray c', slots := #[] } → EP X pins σ Q (.ref s.heap.objs.size) { s with heap := h' } := fun its r' hz h' c' kp e =>
    ⟨.ref s.heap.objs.size, _, I.laid (t' := s.toks) kp (Nat.le_refl _) (show ObjOk X.prog X.w _ h' _ (.lst ys) from ⟨hz, its, c', r', e⟩), rfl, q _ (I.hok.fresh (Nat.le_refl _))⟩
  rcases hq with hq | hq
  · obtain ⟨its, r', pl, hz⟩ := I.list hq
    have hlen := r'.length
    obtain ⟨o, ho, hc, n, hd⟩ := pl.isList
    exact call_list_seq p (.inl rfl) ho hc hd (fun h' c' kp e => fin its r' hz h' c' kp e) (by simp only [List.size_toArray] <;> omega)
  · obtain ⟨its, r', pl, hz⟩ := I.tuple hq
    have hlen := r'.length
    obtain ⟨o, ho, hc, n, hd⟩ := pl
    exact call_list_seq p (.inr rfl) ho hc hd (fun h' c' kp e => fin its r' hz h' c' kp e) (by simp only [List.size_toArray] <;> omega)
theorem call_tuple_of : CallR X (.type "tuple") (fun xs H Q => ∃ p ys, xs = [.ref p] ∧ ((SqL X.K H p ys ∧ ∀ l, H l = none → Q (.ref l) (upd H l (.tup ys))) ∨ (SqT X.K H p ys ∧ Q (.ref p) H))) := by
  intro pins s σ H xs us Q I r h
  obtain ⟨p, ys, rfl, h⟩ := h
  obtain ⟨u, rfl, rx⟩ := vals1 r
  cases rx
  rcases h with ⟨hq, q⟩ | ⟨hq, q⟩
  · obtain ⟨its, r', pl, hz⟩ := I.list hq
    have hlen := r'.length
    refine call_tuple_list pl.isList (fun h' kp => ?_) (by simp only [List.size_toArray] <;> omega)
    have I1 : Inv X pins σ H { s with heap := h' } := I.kept (t' := s.toks) kp
    have I2 : Inv X pins σ (upd H h'.objs.size (.tup ys)) { s with heap := h'.push { cls := .type "tuple", data := .seq its.toArray } } :=
      I1.laid (t' := s.toks) (fun b o e => Heap.get?_push_of_some _ e) (Nat.le_refl _) (show ObjOk X.prog X.w _ _ _ (.tup ys) from ⟨hz, its, r', IsTup.new _ _, _, Heap.get?_push_size _ rfl, rfl⟩)
    exact ⟨.ref h'.objs.size, _, I2, rfl, q _ (I1.hok.fresh (Nat.le_refl _))⟩
  · obtain ⟨its, r', pl, hz⟩ := I.tuple hq
    exact call_tuple_same pl ⟨.ref p, H, I, rfl, q⟩

/-! ### the call of a builtin's method: o.m(..) -/
/-- the value is of that builtin type -/
def tyV (K : PySem.W.Frag) (T : String) (x : V) (H : Hp) : Prop := match x with
  | .str _ => T = "str"
  | .int _ => T = "int"
  | .ref p => (T = "list" ∧ ∃ xs, SqL K H p xs) ∨ (T = "tuple" ∧ ∃ o, K.lookup p = some o ∧ o.cls = .type "tuple" ∧ o.dict = none) ∨
      (T = "dict" ∧ ((∃ kvs, H p = some (.dK kvs)) ∨ ∃ kvs, H p = some (.dT kvs))) ∨ (T = "set" ∧ ∃ S n, H p = some (.set S n))
  | _ => False
theorem tyV_is {pins : List (Addr × Obj)} {σ : St} {H : Hp} {s : Shared} {T : String} {x : V} {v : Value} (I : Inv X pins σ H s) (r : RelV x v) (ty : tyV X.K T x H) :
    s.TypeIs v T ∧ ∀ a, v = .ref a → ∃ ob, s.heap.get? a = some ob ∧ ob.dict = none := by
  cases x with
  | str z =>
    obtain ⟨t, rfl⟩ := r
    cases (show T = "str" from ty)
    exact ⟨typeIs_str s z t, fun _ e => nomatch e⟩
  | int i =>
    obtain ⟨t, rfl⟩ := r
    cases (show T = "int" from ty)
    exact ⟨typeIs_int s i t, fun _ e => nomatch e⟩
  | ref p =>
    cases r
    rcases ty with ⟨rfl, xs, hq⟩ | ⟨rfl, o, hk, hc, hd⟩ | ⟨rfl, hk⟩ | ⟨rfl, S, n, hk⟩
    · obtain ⟨its, _, pl, _⟩ := I.list hq
      refine ⟨pl.isList.typeIs, fun a e => ?_⟩
      cases e
      obtain ⟨o, n, e, c, hd, _⟩ := pl
      exact ⟨o, e, hd⟩
    · refine ⟨⟨o, I.kIn p o hk, hc⟩, fun a e => ?_⟩
      cases e
      exact ⟨o, I.kIn _ o hk, hd⟩
    · have z : ∃ o, s.heap.get? p = some o ∧ o.ExactDict := by
        rcases hk with ⟨kvs, hk⟩ | ⟨kvs, hk⟩
        · obtain ⟨_, _, _, _, o, _, _, e, ex, _⟩ := I.hok p _ hk
          exact ⟨o, e, ex⟩
        · obtain ⟨_, _, _, _, o, _, _, e, ex, _⟩ := I.hok p _ hk
          exact ⟨o, e, ex⟩
      obtain ⟨o, e, ex⟩ := z
      refine ⟨⟨o, e, ex.1⟩, fun a e2 => ?_⟩
      cases e2
      exact ⟨o, e, ex.2.1⟩
    · obtain ⟨o, _, _, _, e, ex, _⟩ := I.hok p _ hk
      refine ⟨⟨o, e, ex.1⟩, fun a e2 => ?_⟩
      cases e2
      exact ⟨o, e, ex.2.1⟩
  | _ => exact False.elim ty
def tBM (K : PySem.W.Frag) (T : String) (r : V → List V → Hp → VK → Prop) (to : TE) (t : TA) : TE := fun σ H Q => to σ H fun x H1 => tyV K T x H1 ∧ t σ H1 fun xs H2 => r x xs H2 Q
variable {o e : Expr} {es : List Expr} {to : TE} {t : TA} {name : Str} {apos cpos : Pos} {T id : String} {r : V → List V → Hp → VK → Prop}
theorem pe_bm (pa : PlainAttrs T) (slot : Slot T name id) (hty : typeOf (.builtin id) = pure (.type "method_descriptor")) (hm : MtR X id r) (ho : PE X o to) (ha : PA X (e :: es) t)
    (hbase : attributeBase o name X.env (eval o X.env) = eval o X.env := by rfl)
    (hfew : ((backTo cpos (starEach (e :: es) X.env)).all (fun x => !x.1) && (backToKw cpos (keywordEach [] X.env)).all (fun x => x.1.isSome)
      && decide ((e :: es).length + ([] : List Keyword).length + (if ([] : List Keyword).isEmpty then 0 else 1) < 30)) = true := by rfl)
    (hline : (apos.endLine == cpos.line) = true := by rfl) (hs : starEach (e :: es) X.env = (false, eval e X.env) :: starEach es X.env := by rfl) (hplain : (backTo cpos (starEach es X.env)).any (·.1) = false := by rfl) :
    PE X (.Call (.Attribute o name apos) (e :: es) [] cpos) (tBM X.K T r to t) := by
  intro pins s σ H Q I h
  refine wpAny_Call_method_late hbase hfew hline rfl (thn (ho pins s σ H _ I h) fun v s1 ⟨x, H1, I1, r1, ty, q1⟩ => ?_)
  obtain ⟨h1, h2⟩ := tyV_is I1 r1 ty
  refine ⟨T, id, pa, slot, hty, h1, h2, ?_⟩
  have hA := ha cpos pins s1 σ H1 _ I1 q1
  rw [hs] at hA ⊢
  refine Calls.callWith_builtin (by show (false || (backTo cpos (starEach es X.env)).any (·.1)) = false; rw [hplain] <;> rfl) (Calls.evalArgs_plain ?_)
  exact thn hA fun us s2 ⟨vs, H2, I2, r2, q2⟩ => hm pins s2 σ H2 x vs v us Q I2 r1 r2 q2
/- xs.append(e), list.index on a module's tuple .. are MtR facts of 06m -/
end
end L2

namespace L2
open PySem PySem.Spec PyProof.Rows

def MtM (X : Cx) (id : String) (r : V → List V → Hp → VK → Prop) : Prop :=
  ∀ (pins : List (Addr × Obj)) (s : Shared) (σ : St) (H : Hp) (x : V) (xs : List V) (v : Value) (us : List Value) (Q : VK), Inv X pins σ H s → RelV x v → Vals xs us → r x xs H Q →
    wpAny (model X.prog X.w) X.A (call (.builtin id) (v :: us)) (EP X pins σ Q) X.xe s

/-! ### lists of values -/
theorem Vals.one : ∀ {x : V} {us : List Value}, Vals [x] us → ∃ u, us = [u] ∧ RelV x u
  | _, _, .cons r .nil => ⟨_, rfl, r⟩
theorem Vals.two : ∀ {x y : V} {us : List Value}, Vals [x, y] us → ∃ u v, us = [u, v] ∧ RelV x u ∧ RelV y v
  | _, _, _, .cons r (.cons q .nil) => ⟨_, _, rfl, r, q⟩
theorem Vals.zero : ∀ {us : List Value}, Vals [] us → us = []
  | _, .nil => rfl
theorem Vals.reverse {xs : List V} {us : List Value} (h : Vals xs us) : Vals xs.reverse us.reverse := by
  induction h with
  | nil => exact .nil
  | cons r t ih => rw [List.reverse_cons, List.reverse_cons]; exact Vals.append ih (.cons r .nil)
theorem Vals.rep {xs : List V} {us : List Value} (h : Vals xs us) : ∀ k : Nat, Vals (List.replicate k xs).flatten (List.replicate k us).flatten
  | 0 => .nil
  | k + 1 => by
    rw [List.replicate_succ, List.replicate_succ, List.flatten_cons, List.flatten_cons]
    exact Vals.append h (Vals.rep h k)
theorem foldl_rep (its : List Value) : ∀ (k : Nat) (acc : List Value),
    List.foldl (fun x1 x2 => x1 ++ x2) acc.toArray (List.replicate k its.toArray) = (acc ++ (List.replicate k its).flatten).toArray
  | 0, acc => by simp
  | k + 1, acc => by
    have e : acc.toArray ++ its.toArray = (acc ++ its).toArray := by simp
    have e2 : (acc ++ its) ++ (List.replicate k its).flatten = acc ++ (List.replicate (k + 1) its).flatten := by
      rw [List.replicate_succ, List.flatten_cons, List.append_assoc]
    rw [← e2, ← foldl_rep its k (acc ++ its), ← e, List.replicate_succ, List.foldl_cons]

section
variable {X : Cx} {pins : List (Addr × Obj)} {σ : St} {H : Hp} {s : Shared} {l b : Addr} {xs ys zs : List V}

/-! ### the two steps: a tracked list is rewritten, a new list is laid -/
theorem Inv.lset {its its' : List Value} {n : Nat} {f : Array Value → Array Value} {t' : Nat} (I : Inv X pins σ H s) (hH : H l = some (.lst xs))
    (e : s.heap.get? l = some { cls := .type "list", data := .seq its.toArray n }) (hf : f its.toArray = its'.toArray) (hv : Vals ys its') (hz : ys.length ≤ sizeLine) :
    Inv X pins σ (upd H l (.lst ys)) { s with heap := s.heap.update l (Obj.mapSeq f), toks := t' } := by
  have q := PySem.IsL.update e f
  rw [hf] at q
  refine I.write (x := l) (e := l) (by rw [hH]; exact trivial) (.inl rfl) (fun b' u hb hu => (Heap.get?_update_other s.heap (Obj.mapSeq f) (Ne.symm hb)).trans hu) ⟨_, q⟩ ?_
  exact ⟨hz, its', _, hv, q⟩
theorem Inv.fresh (I : Inv X pins σ H s) : H s.heap.objs.size = none := I.hok.fresh (Nat.le_refl _)
theorem Inv.lstM (I : Inv X pins σ H s) (hH : H l = some (.lst xs)) : xs.length ≤ sizeLine ∧ ∃ (its : List Value) (n : Nat), Vals xs its ∧ xs.length = its.length ∧ s.heap.get? l = some { cls := .type "list", data := .seq its.toArray n } := by
  obtain ⟨z, its, n, r, e⟩ := I.hok l _ hH
  exact ⟨z, its, n, r, r.length, e⟩

end

section
variable {X : Cx}

/-! ### methods -/
def rAppend : V → List V → Hp → VK → Prop := fun x vs H Q => ∃ l xs y, x = .ref l ∧ vs = [y] ∧ H l = some (.lst xs) ∧ xs.length < sizeLine ∧ Q .non (upd H l (.lst (xs ++ [y])))
theorem mt_append : MtM X "list.append" rAppend := by
  intro pins s σ H x vs v us Q I rx rv h
  obtain ⟨l, xs, y, rfl, rfl, hH, hz, q⟩ := h
  cases rx
  obtain ⟨u, rfl, ru⟩ := rv.one
  obtain ⟨z, its, n, r, hl, e⟩ := I.lstM hH
  refine call_meets F.slot_list_append ⟨_, e, rfl⟩ F.entry_list_append (F.args_list_append_2 _ _) (PySem.list_append l its.toArray n u (by rw [List.size_toArray]; omega)) ⟨e, ?_⟩
  refine ⟨.non, _, I.lset (its' := its ++ [u]) hH e (by simp) (r.append (.cons ru .nil)) ?_, rfl, q⟩
  rw [List.length_append, List.length_singleton]
  omega






/-! ### list + list, list += list, list * int -/
theorem len_rep {α : Type} (xs : List α) (k : Nat) : (List.replicate k xs).flatten.length = k * xs.length := by
  induction k with
  | zero => simp
  | succ k ih => rw [List.replicate_succ, List.flatten_cons, List.length_append, ih, Nat.succ_mul, Nat.add_comm]

/-! ### del xs[i] -/
end

/-! ### xs[a:b] = ys -/
section
variable {prog : Program} {w : World} {A : Around} {E : Value → Shared → Prop} {s : Shared}
end

section
variable {X : Cx}
end
end L2

namespace L2
open PySem PySem.Spec PyProof.Rows

theorem Vals.ints : ∀ {ns : List Int} {us : List Value}, Vals (ns.map V.int) us → IntsAre us ns
  | [], us, h => by
    rw [List.map_nil] at h
    cases h
    exact IntsAre.nil
  | n :: ns, us, h => by
    rw [List.map_cons] at h
    cases h with
    | cons r t =>
      obtain ⟨k, rfl⟩ := r
      exact IntsAre.cons n k (Vals.ints t)
theorem Vals.strs : ∀ {xs : List Str} {us : List Value}, Vals (xs.map V.str) us → StrsAre us xs
  | [], us, h => by
    rw [List.map_nil] at h
    cases h
    exact StrsAre.nil
  | x :: xs, us, h => by
    rw [List.map_cons] at h
    cases h with
    | cons r t =>
      obtain ⟨k, rfl⟩ := r
      exact StrsAre.cons x k (Vals.strs t)
theorem Vals.bls : ∀ {bs : List Bool} {us : List Value}, Vals (bs.map V.bl) us → us = bs.map Value.bool
  | [], us, h => by
    rw [List.map_nil] at h
    cases h
    rfl
  | b :: bs, us, h => by
    rw [List.map_cons] at h
    cases h with
    | cons r t =>
      cases r
      rw [Vals.bls t, List.map_cons]
theorem Vals.ref1 {a : Addr} {us : List Value} (r : Vals [V.ref a] us) : us = [Value.ref a] := by
  cases r with
  | cons r t =>
    cases t
    cases r
    rfl

/-! ### the library's walks over a list of ints, kept objects alone -/
section
variable {prog : Program} {w : World} {A : Around} {E : Value → Shared → Prop} {s : Shared} {l : Addr} {its : List Value} {ns : List Int} {Q : Value → Shared → Prop}
theorem sum_raw (hh : A.handled = none) (hl : s.heap.IsList l its.toArray) (hi : IntsAre its ns)
    (h : ∀ h' tk t', (∀ b o, s.heap.get? b = some o → h'.get? b = some o) → Q (.int ns.sum t') { s with heap := h', toks := tk }) : wpAny (model prog w) A (call (.builtin "sum") [.ref l]) Q E s := by
  obtain ⟨xs, e⟩ := hi.allInts.items
  have hn : numsOf (intItems xs).toList = ns := by rw [← e]; exact hi.numsOf
  rw [nums_intItems] at hn
  rw [e] at hl
  refine PySem.sum_intListG hh hl fun h' tk t' hk => ?_
  have := h h' tk t' hk
  rw [preSum_eq, List.take_of_length_le (by simp), hn]; exact this
theorem max_raw (hh : A.handled = none) (hl : s.heap.IsList l its.toArray) (hi : IntsAre its ns) (hne : 0 < ns.length)
    (h : ∀ h' tk M t', (∀ b o, s.heap.get? b = some o → h'.get? b = some o) → M ∈ ns → (∀ a, a ∈ ns → a ≤ M) → Q (.int M t') { s with heap := h', toks := tk }) : wpAny (model prog w) A (call (.builtin "max") [.ref l]) Q E s := by
  obtain ⟨xs, e⟩ := hi.allInts.items
  have hn : numsOf (intItems xs).toList = ns := by rw [← e]; exact hi.numsOf
  rw [nums_intItems] at hn
  subst hn
  rw [e] at hl
  have hsz : 0 < xs.size := by simpa using hne
  refine PySem.max_intList hh hl hsz fun v h' tk hv hk => ?_
  obtain ⟨t, rfl⟩ := intItems_at hv
  obtain ⟨h1, h2⟩ := argBest_gt (numAt xs) (xs.size - 1)
  refine h h' tk _ t hk ?_ fun a ha => ?_
  · rw [numAt_eq]; exact PySem.getD_mem (by rw [List.length_map, Array.length_toList]; omega)
  · obtain ⟨j, hj, rfl⟩ := mem_getD ha
    rw [List.length_map, Array.length_toList] at hj
    rw [← numAt_eq]; exact h2 j (by omega)
theorem min_raw (hh : A.handled = none) (hl : s.heap.IsList l its.toArray) (hi : IntsAre its ns) (hne : 0 < ns.length)
    (h : ∀ h' tk M t', (∀ b o, s.heap.get? b = some o → h'.get? b = some o) → M ∈ ns → (∀ a, a ∈ ns → M ≤ a) → Q (.int M t') { s with heap := h', toks := tk }) : wpAny (model prog w) A (call (.builtin "min") [.ref l]) Q E s := by
  obtain ⟨xs, e⟩ := hi.allInts.items
  have hn : numsOf (intItems xs).toList = ns := by rw [← e]; exact hi.numsOf
  rw [nums_intItems] at hn
  subst hn
  rw [e] at hl
  have hsz : 0 < xs.size := by simpa using hne
  refine PySem.min_intList hh hl hsz fun v h' tk hv hk => ?_
  obtain ⟨t, rfl⟩ := intItems_at hv
  obtain ⟨h1, h2⟩ := argBest_lt (numAt xs) (xs.size - 1)
  refine h h' tk _ t hk ?_ fun a ha => ?_
  · rw [numAt_eq]; exact PySem.getD_mem (by rw [List.length_map, Array.length_toList]; omega)
  · obtain ⟨j, hj, rfl⟩ := mem_getD ha
    rw [List.length_map, Array.length_toList] at hj
    rw [← numAt_eq]; exact h2 j (by omega)
end

/-! ### the calls, by values (CallR of 03t; MtR of 06l) -/
section
variable {X : Cx}
/-- sum(xs) of a list of ints -/
def rSum (K : PySem.W.Frag) : List V → Hp → VK → Prop := fun vs H Q => ∃ (a : Addr) (ns : List Int), vs = [V.ref a] ∧ SqL K H a (ns.map V.int) ∧ Q (.int ns.sum) H
/-- max(xs), min(xs) of a list of ints -/
def rMax (K : PySem.W.Frag) : List V → Hp → VK → Prop := fun vs H Q => ∃ (a : Addr) (ns : List Int), vs = [V.ref a] ∧ SqL K H a (ns.map V.int) ∧ 0 < ns.length ∧ ∀ m, m ∈ ns → (∀ y, y ∈ ns → y ≤ m) → Q (.int m) H
def rMin (K : PySem.W.Frag) : List V → Hp → VK → Prop := fun vs H Q => ∃ (a : Addr) (ns : List Int), vs = [V.ref a] ∧ SqL K H a (ns.map V.int) ∧ 0 < ns.length ∧ ∀ m, m ∈ ns → (∀ y, y ∈ ns → m ≤ y) → Q (.int m) H
theorem cr_sum (hc : X.calm = true) : CallR X (.builtin "sum") (rSum X.K) := by
  intro pins s σ H vs us Q I r h
  obtain ⟨a, ns, rfl, hs, q⟩ := h
  obtain ⟨its, rv, hl, _⟩ := I.list hs
  rw [Vals.ref1 r]
  exact sum_raw (I.ok.hd hc) hl.isList rv.ints fun h' tk t' hk => ⟨.int _, H, I.kept hk, ⟨_, rfl⟩, q⟩
theorem cr_max (hc : X.calm = true) : CallR X (.builtin "max") (rMax X.K) := by
  intro pins s σ H vs us Q I r h
  obtain ⟨a, ns, rfl, hs, hne, q⟩ := h
  obtain ⟨its, rv, hl, _⟩ := I.list hs
  rw [Vals.ref1 r]
  exact max_raw (I.ok.hd hc) hl.isList rv.ints hne fun h' tk m t' hk h1 h2 => ⟨.int _, H, I.kept hk, ⟨_, rfl⟩, q m h1 h2⟩
theorem cr_min (hc : X.calm = true) : CallR X (.builtin "min") (rMin X.K) := by
  intro pins s σ H vs us Q I r h
  obtain ⟨a, ns, rfl, hs, hne, q⟩ := h
  obtain ⟨its, rv, hl, _⟩ := I.list hs
  rw [Vals.ref1 r]
  exact min_raw (I.ok.hd hc) hl.isList rv.ints hne fun h' tk m t' hk h1 h2 => ⟨.int _, H, I.kept hk, ⟨_, rfl⟩, q m h1 h2⟩

/-! sorted, sort (fewer than 64 items: the library's own bound) -/
end

/-! ### list.index, flat items -/
section
variable {X : Cx}
end

/-! ### type(x) of an own instance; is, is not of a module's class -/
section
variable {X : Cx}
end

/-! ### any(xs), all(xs) of a list of bools -/
theorem iter_any {prog : Program} {w : World} {A : Around} {E : Value → Shared → Prop} {s : Shared} {l : Addr} {items : Array Value} {Q : Value → Shared → Prop} (hl : s.heap.IsList l items)
    (h : ∀ s₂ : Shared, s₂ = { s with heap := s.heap.push { cls := .type "list_iterator", data := .fields #[.ref l, .int 0 0] } } →
      (s₂.heap.IsListIter s.heap.objs.size l 0 ∧ s₂.heap.IsList l items) → l ≠ s.heap.objs.size → Q (.ref s.heap.objs.size) s₂) : wpAny (model prog w) A (pyIter (.ref l)) Q E s := by
  have hlt : l < s.heap.objs.size := by obtain ⟨_, e, _⟩ := hl; exact Heap.lt_size e
  exact wpAny_pyIter_list hl (h _ rfl ⟨⟨_, Heap.get?_push_size _ rfl, rfl, rfl⟩, hl.push _⟩ (Nat.ne_of_lt hlt))
theorem truth_bools {prog : Program} {w : World} {A : Around} {bs : List Bool} {its : List Value} (e : its = bs.map Value.bool) :
    TruthOf prog w A (fun i v => its.toArray[i]? = some v) (fun i => bs.getD i false) := fun i v s Q E hv hq => by
  have hv' : its[i]? = some v := by simpa using hv
  rw [e, List.getElem?_map] at hv'
  obtain ⟨b, hb, rfl⟩ := Option.map_eq_some_iff.mp hv'
  have hg : bs.getD i false = b := by rw [List.getD_eq_getElem?_getD, hb] <;> rfl
  have hq' : Q (bs.getD i false) s := hq
  rw [hg] at hq'
  exact wpAny_truthy_bool hq'
theorem all_range : ∀ bs : List Bool, (List.range bs.length).all (fun i => bs.getD i false) = bs.all id
  | [] => rfl
  | b :: bs => by
    rw [List.length_cons, List.range_succ_eq_map, List.all_cons, List.all_map, List.all_cons, ← all_range bs]
    all_goals rfl
section
variable {X : Cx}
def rAll (K : PySem.W.Frag) : List V → Hp → VK → Prop := fun vs H Q => ∃ (a : Addr) (bs : List Bool), vs = [V.ref a] ∧ SqL K H a (bs.map V.bl) ∧ Q (.bl (bs.all id)) H
theorem cr_all (hc : X.calm = true) : CallR X (.builtin "all") (rAll X.K) := by
  intro pins s σ H vs us Q I r h
  obtain ⟨a, bs, rfl, hs, q⟩ := h
  obtain ⟨its, rv, hl, _⟩ := I.list hs
  rw [Vals.ref1 r]
  have hb := rv.bls
  refine call_all_walk (iter_any hl.isList fun s₂ e2 st hne => ?_)
  subst e2
  refine ⟨_, _, _, _, _, _, _, rfl, Walks.list (A := X.A.in1) (I.ok.hd hc) _ a hne its.toArray, st, truth_bools hb, fun h' tk hk => ?_⟩
  refine ⟨.bl _, H, I.kept fun b o eo => hk b o (fun hmem => ?_) (Heap.get?_push_of_some _ eo), ?_, q⟩
  · rcases List.mem_cons.mp hmem with e1 | hmem
    · exact absurd (e1 ▸ Heap.lt_size eo) (Nat.lt_irrefl _)
    · cases hmem
  · show Value.bool _ = Value.bool _
    rw [← all_range, hb, List.size_toArray, List.length_map]
end

/-! ### == and != of data at any depth: none, bools, ints, texts, lists, tuples -/
mutual
inductive Dp (K : PySem.W.Frag) (H : Hp) : V → PyData → Prop
  | non : Dp K H .non .none
  | bl (b : Bool) : Dp K H (.bl b) (.bool b)
  | int (i : Int) : Dp K H (.int i) (.int i)
  | str (x : Str) : Dp K H (.str x) (.str x)
  | lst {a : Addr} {xs : List V} {ds : List PyData} : SqL K H a xs → DpAll K H xs ds → Dp K H (.ref a) (.list ds)
  | tup {a : Addr} {xs : List V} {ds : List PyData} : SqT K H a xs → DpAll K H xs ds → Dp K H (.ref a) (.tuple ds)
inductive DpAll (K : PySem.W.Frag) (H : Hp) : List V → List PyData → Prop
  | nil : DpAll K H [] []
  | cons {v : V} {vs : List V} {d : PyData} {ds : List PyData} : Dp K H v d → DpAll K H vs ds → DpAll K H (v :: vs) (d :: ds)
end
section
variable {X : Cx} {pins : List (Addr × Obj)} {σ : St} {H : Hp} {s : Shared}
mutual
theorem Dp.reads (I : Inv X pins σ H s) : ∀ (d : PyData) (v : V) (u : Value), Dp X.K H v d → RelV v u → ∃ as, Reads s.heap u d as
  | .none, _, _, h, r => by
    cases h
    cases r
    exact ⟨_, Reads.none⟩
  | .bool b, _, _, h, r => by
    cases h
    cases r
    exact ⟨_, Reads.bool b⟩
  | .int i, _, _, h, r => by
    cases h
    obtain ⟨t, rfl⟩ := r
    exact ⟨_, Reads.int i t⟩
  | .str x, _, _, h, r => by
    cases h
    obtain ⟨t, rfl⟩ := r
    exact ⟨_, Reads.str x t⟩
  | .list ds, _, _, h, r => by
    cases h with
    | lst hs ha =>
      cases r
      obtain ⟨its, rv, ⟨o, n, ho, hc, _, hd⟩, _⟩ := I.list hs
      obtain ⟨as, hr⟩ := Dp.readsAll I ds _ its ha rv
      exact ⟨_, Reads.list ho hc hd hr⟩
  | .tuple ds, _, _, h, r => by
    cases h with
    | tup hs ha =>
      cases r
      obtain ⟨its, rv, ⟨o, ho, hc, n, hd⟩, _⟩ := I.tuple hs
      obtain ⟨as, hr⟩ := Dp.readsAll I ds _ its ha rv
      exact ⟨_, Reads.tuple ho hc hd hr⟩
  | .dict _, _, _, h, _ => by cases h
theorem Dp.readsAll (I : Inv X pins σ H s) : ∀ (ds : List PyData) (vs : List V) (us : List Value), DpAll X.K H vs ds → Vals vs us → ∃ as, ReadsAll s.heap us ds as
  | [], _, _, h, r => by
    cases h
    cases r
    exact ⟨_, ReadsAll.nil⟩
  | d :: ds, _, _, h, r => by
    cases h with
    | cons h1 h2 =>
      cases r with
      | cons r1 r2 =>
        obtain ⟨as, q1⟩ := Dp.reads I d _ _ h1 r1
        obtain ⟨bs, q2⟩ := Dp.readsAll I ds _ _ h2 r2
        exact ⟨_, ReadsAll.cons q1 q2⟩
end
end
section
variable {X : Cx}
def rNeD (K : PySem.W.Frag) : R2 := fun x y H Q => ∃ d e, Dp K H x d ∧ Dp K H y e ∧ SeqAt.shaped d = true ∧ SeqAt.shaped e = true ∧ Q (.bl (!PyData.eqv d e)) H
theorem op_neD (hu : X.A.units + 64 < cLine) : OpR X (compareOp .NotEq) (rNeD X.K) := by
  intro pins s σ H x y v u Q I rx ry h
  obtain ⟨d, e, hd, he, sd, se, q⟩ := h
  obtain ⟨as, r1⟩ := Dp.reads I d x v hd rx
  obtain ⟨bs, r2⟩ := Dp.reads I e y u he ry
  exact SeqAt.compareNe_shaped r1 r2 sd se hu ⟨.bl _, H, I, rfl, q⟩
end
end L2

namespace L2
open PySem PySem.Spec PyProof.Rows
abbrev CellAt (h : Heap) (c : Addr) (v : Option Value) : Prop := h.IsCell c v
def relS (scope sc : Scope) : Scope :=
  { scope with names := scope.names.map fun (n, k) => if (k == .free && sc.kind == .function && sc.names.lookup n == some .cell) then (n, .cell) else (n, k) }

def cloFrom (cells : List (Str × Addr)) : List (Str × NameKind) → List (Str × Addr) → List (Str × Addr)
  | [], acc => acc
  | (n, k) :: r, acc => if k == .free then cloFrom cells r ((n, (cells.lookup n).getD 0) :: acc) else cloFrom cells r acc

theorem closure_loop (env : Env) (f : Str × NameKind → List (Str × Addr) → Sem (ForInStep (List (Str × Addr))))
    (hf : ∀ n k c, f (n, k) c = if k == .free then (do let a ← cellOf env n; pure (.yield ((n, a) :: c))) else pure (.yield c)) :
    ∀ (names : List (Str × NameKind)) (acc : List (Str × Addr)), (∀ y ∈ names, y.2 = .free → ∃ c, env.cells.lookup y.1 = some c) → forIn names acc f = pure (cloFrom env.cells names acc)
  | [], acc, _ => by rw [List.forIn_nil]; rfl
  | (n, k) :: r, acc, h => by
    rw [List.forIn_cons, hf]
    have ih := fun acc => closure_loop env f hf r acc fun y hy => h y (List.mem_cons_of_mem _ hy)
    unfold cloFrom
    by_cases hk : (k == NameKind.free) = true
    · rw [if_pos hk, if_pos hk]
      obtain ⟨c, hc⟩ := h (n, k) List.mem_cons_self (by simpa using hk)
      have e : cellOf env n = pure c := by unfold cellOf; rw [hc]
      rw [e]
      have e2 : (env.cells.lookup n).getD 0 = c := by rw [hc]; rfl
      rw [e2]
      exact ih _
    · rw [if_neg hk, if_neg hk]
      exact ih _
theorem closure_ok {scope : Scope} {env : Env} (h : ∀ y ∈ scope.names, y.2 = .free → ∃ c, env.cells.lookup y.1 = some c) : closureFor scope env = pure (cloFrom env.cells scope.names []) := by
  simp only [closureFor]
  rw [closure_loop env _ (fun n k c => rfl) scope.names [] h]
  rfl

theorem mem_lookup {α : Type} : ∀ {l : List (Str × α)} {n : Str} {c : α}, (n, c) ∈ l → ∃ c', l.lookup n = some c'
  | (k, v) :: r, n, c, h => by
    rw [List.lookup_cons]
    cases hb : n == k with
    | true => exact ⟨_, rfl⟩
    | false =>
      rcases List.mem_cons.mp h with e | h
      · cases e; simp at hb
      · exact mem_lookup h

theorem cloFrom_mem {cells : List (Str × Addr)} : ∀ {names : List (Str × NameKind)} {acc : List (Str × Addr)} {n : Str} {c : Addr}, (n, c) ∈ cloFrom cells names acc → (n, c) ∈ acc ∨ ((n, .free) ∈ names ∧ c = (cells.lookup n).getD 0)
  | [], _, _, _, h => .inl h
  | (m, k) :: r, acc, n, c, h => by
    unfold cloFrom at h
    split at h
    · rename_i hk
      have hk : k = .free := by simpa using hk
      rcases cloFrom_mem h with h | ⟨h1, h2⟩
      · rcases List.mem_cons.mp h with e | h
        · cases e; exact .inr ⟨hk ▸ List.mem_cons_self, rfl⟩
        · exact .inl h
      · exact .inr ⟨List.mem_cons_of_mem _ h1, h2⟩
    · rcases cloFrom_mem h with h | ⟨h1, h2⟩
      · exact .inl h
      · exact .inr ⟨List.mem_cons_of_mem _ h1, h2⟩
theorem cloFrom_acc {cells : List (Str × Addr)} : ∀ {names : List (Str × NameKind)} {acc : List (Str × Addr)} {p : Str × Addr}, p ∈ acc → p ∈ cloFrom cells names acc
  | [], _, _, h => h
  | (m, k) :: r, acc, p, h => by
    unfold cloFrom
    split
    · exact cloFrom_acc (List.mem_cons_of_mem _ h)
    · exact cloFrom_acc h
theorem cloFrom_has {cells : List (Str × Addr)} : ∀ {names : List (Str × NameKind)} {acc : List (Str × Addr)} {n : Str}, (n, .free) ∈ names → (n, (cells.lookup n).getD 0) ∈ cloFrom cells names acc
  | (m, k) :: r, acc, n, h => by
    unfold cloFrom
    rcases List.mem_cons.mp h with e | h
    · cases e
      exact cloFrom_acc List.mem_cons_self
    · split
      · exact cloFrom_has h
      · exact cloFrom_has h

theorem cells_mem : ∀ {names : List (Str × NameKind)} {h : Heap} {acc : List (Str × Addr)} {x : Str} {c : Addr}, (x, c) ∈ cellsFrom h.objs.size names acc →
    (x, c) ∈ acc ∨ ((x, .cell) ∈ names ∧ h.objs.size ≤ c ∧ CellAt (pushCells h names) c none)
  | [], _, _, _, _, h => .inl h
  | (n, k) :: r, h, acc, x, c, hm => by
    unfold cellsFrom at hm
    unfold pushCells
    split at hm
    · rename_i hk
      rw [if_pos hk]
      have hk : k = .cell := by simpa using hk
      rw [← Heap.size_push h { cls := .type "cell", data := .cell none }] at hm
      rcases cells_mem hm with hm | ⟨h1, h2, h3⟩
      · rcases List.mem_cons.mp hm with e | hm
        · cases e
          exact .inr ⟨hk ▸ List.mem_cons_self, Nat.le_refl _, _, pushCells_keeps r _ _ _ (Heap.get?_push_size _ rfl), rfl⟩
        · exact .inl hm
      · rw [Heap.size_push] at h2
        exact .inr ⟨List.mem_cons_of_mem _ h1, Nat.le_of_succ_le h2, h3⟩
    · rename_i hk
      rw [if_neg hk]
      rcases cells_mem hm with hm | ⟨h1, h2, h3⟩
      · exact .inl hm
      · exact .inr ⟨List.mem_cons_of_mem _ h1, h2, h3⟩
theorem cells_acc : ∀ {names : List (Str × NameKind)} {n : Nat} {acc : List (Str × Addr)} {p : Str × Addr}, p ∈ acc → p ∈ cellsFrom n names acc
  | [], _, _, _, h => h
  | (m, k) :: r, n, acc, p, h => by
    unfold cellsFrom
    split
    · exact cells_acc (List.mem_cons_of_mem _ h)
    · exact cells_acc h
theorem cells_has : ∀ {names : List (Str × NameKind)} {n : Nat} {acc : List (Str × Addr)} {x : Str}, (x, .cell) ∈ names → ∃ c, (x, c) ∈ cellsFrom n names acc
  | (m, k) :: r, n, acc, x, h => by
    unfold cellsFrom
    rcases List.mem_cons.mp h with e | h
    · cases e
      exact ⟨n, cells_acc List.mem_cons_self⟩
    · split
      · exact cells_has h
      · exact cells_has h
theorem cells_inj : ∀ {names : List (Str × NameKind)} {h : Heap} {acc : List (Str × Addr)} {x y : Str} {c : Addr}, (∀ p ∈ acc, p.2 < h.objs.size) → (∀ x y c, (x, c) ∈ acc → (y, c) ∈ acc → x = y) →
    (x, c) ∈ cellsFrom h.objs.size names acc → (y, c) ∈ cellsFrom h.objs.size names acc → x = y
  | [], _, _, _, _, _, _, hi, h1, h2 => hi _ _ _ h1 h2
  | (n, k) :: r, h, acc, x, y, c, hl, hi, h1, h2 => by
    unfold cellsFrom at h1 h2
    split at h1
    · rename_i hk
      rw [if_pos hk] at h2
      rw [← Heap.size_push h { cls := .type "cell", data := .cell none }] at h1 h2
      refine cells_inj (h := h.push _) (fun p hp => ?_) (fun x y c a b => ?_) h1 h2
      · rw [Heap.size_push]
        rcases List.mem_cons.mp hp with rfl | hp
        · exact Nat.lt_succ_self _
        · exact Nat.lt_succ_of_lt (hl p hp)
      · rcases List.mem_cons.mp a with e | a <;> rcases List.mem_cons.mp b with e' | b
        · cases e; cases e'; rfl
        · cases e; exact absurd (hl _ b) (Nat.lt_irrefl _)
        · cases e'; exact absurd (hl _ a) (Nat.lt_irrefl _)
        · exact hi _ _ _ a b
    · rename_i hk
      rw [if_neg hk] at h2
      exact cells_inj hl hi h1 h2

theorem newEnv_comp {M : Model} {A : Around} {E : Value → Shared → Prop} {s : Shared} {scope : Scope} {globals : Addr} {closure : List (Str × Addr)} {qual : Str} {func : Option Addr} {code : Value} {around : Env} {builtins : Addr} {Q : Env → Shared → Prop}
    (h : Q (newEnv scope s.heap.objs.size globals (cellsFrom (s.heap.objs.size + 1) scope.names closure) qual func code (some around) builtins)
      { s with heap := pushCells (s.heap.push { cls := .type "dict", data := .dict #[] }) scope.names }) :
    wpAny M A (newFunctionEnv scope globals closure [] qual func code (some around) builtins) Q E s := by
  simp only [newFunctionEnv, Option.isSome_some, if_true]
  refine wpAny_bind (wpAny_alloc ?_)
  refine wpAny_bind (wpAny_layCells _ (fun n k c => rfl) scope.names closure _ _ ?_)
  rw [show ({ s with heap := s.heap.push { cls := .type "dict", data := .dict #[] } } : Shared).heap.objs.size = s.heap.objs.size + 1 from Heap.size_push ..]
  rw [List.forIn_nil]
  exact wpAny_bind (wpAny_pure (wpAny_pure h))

/-- every name of the written scope, in the scope that runs -/
theorem lookup_relS {sc : Scope} : ∀ {names : List (Str × NameKind)} {x : Str} {k : NameKind},
    (names.map fun (n, k) => if (k == NameKind.free && sc.kind == .function && sc.names.lookup n == some .cell) then (n, NameKind.cell) else (n, k)).lookup x = some k →
    ∃ k', names.lookup x = some k' ∧ (k = k' ∨ (k' = .free ∧ k = .cell))
  | [], _, _, h => by simp at h
  | (n, k₀) :: r, x, k, h => by
    have ih := @lookup_relS sc r x k
    have h' : List.lookup x ((if (k₀ == NameKind.free && sc.kind == .function && sc.names.lookup n == some .cell) = true then (n, NameKind.cell) else (n, k₀)) :: (r.map _)) = some k := h
    cases hx : x == n with
    | true =>
      simp only [List.lookup_cons, hx]
      by_cases hc : (k₀ == NameKind.free && sc.kind == .function && sc.names.lookup n == some .cell) = true
      · rw [if_pos hc] at h'
        simp only [List.lookup_cons, hx] at h'
        cases h'
        simp only [Bool.and_eq_true, beq_iff_eq] at hc
        exact ⟨k₀, rfl, .inr ⟨hc.1.1, rfl⟩⟩
      · rw [if_neg hc] at h'
        simp only [List.lookup_cons, hx] at h'
        cases h'
        exact ⟨_, rfl, .inl rfl⟩
    | false =>
      simp only [List.lookup_cons, hx]
      by_cases hc : (k₀ == NameKind.free && sc.kind == .function && sc.names.lookup n == some .cell) = true
      · rw [if_pos hc] at h'
        simp only [List.lookup_cons, hx] at h'
        exact ih h'
      · rw [if_neg hc] at h'
        simp only [List.lookup_cons, hx] at h'
        exact ih h'



/-- the names of a comprehension's block: its own (with their places in N), or captured -/
structure BlkOk (N : List Str) (sc scope : Scope) (own : List (Str × Nat)) : Prop where
  kind : scope.kind = .function
  uniq : ∀ y ∈ scope.names, scope.names.lookup y.1 = some y.2
  ix : ∀ p ∈ own, N[p.2]? = some p.1
  free : ∀ y ∈ scope.names, y.2 = .free → sc.names.lookup y.1 = some .cell ∨ sc.names.lookup y.1 = some .free
  own : ∀ y ∈ scope.names, y.2 = .local ∨ y.2 = .cell → y.1 ∈ own.map (·.1) ∨ y.1 ∉ N
/-- the slots of the block's own names forgotten -/
def wipe (σ : St) : List Nat → St
  | [] => σ
  | v :: vs => (wipe σ vs).set v none
theorem wipe_length (σ : St) : ∀ vs : List Nat, (wipe σ vs).length = σ.length
  | [] => rfl
  | v :: vs => by unfold wipe; rw [List.length_set, wipe_length σ vs]
theorem wipe_some {σ : St} {i : Nat} {x : V} : ∀ {vs : List Nat}, (wipe σ vs)[i]? = some (some x) → σ[i]? = some (some x) ∧ i ∉ vs
  | [], h => ⟨h, by simp⟩
  | v :: vs, h => by
    unfold wipe at h
    by_cases hi : v = i
    · subst hi
      by_cases hv : v < (wipe σ vs).length
      · rw [List.getElem?_set_self hv] at h; cases h
      · rw [List.getElem?_eq_none (by simpa using hv)] at h; cases h
    · rw [List.getElem?_set_ne hi] at h
      obtain ⟨h1, h2⟩ := wipe_some h
      exact ⟨h1, by simp only [List.mem_cons, not_or]; exact ⟨fun e => hi e.symm, h2⟩⟩

/-- the context of a block that starts at s, its iterator's objects at fp -/
abbrev Cx.blk (X : Cx) (s : Shared) (H : Hp) (scope : Scope) (cenv : Env) (fp : List Addr) : Cx := { X with s_0 := s, H_0 := H, env := cenv, outer := X.stack, ex := fp, fn := fun x => scope.names.lookup x == some .cell, pn := [], xe := fun _ _ => False }
section
variable {X : Cx} {pins : List (Addr × Obj)} {σ : St} {H : Hp} {s : Shared}
theorem block_start {scope : Scope} {own : List (Str × Nat)} {fp : List Addr} (I : Inv X pins σ H s) (ok : BlkOk X.N X.env.scope scope own) (hN : X.N.Nodup) (hfp : ∀ b ∈ fp, FpOk X pins H b ∧ b < s.heap.objs.size) :
    Inv (X.blk s H scope (compEnvC scope (cellsFrom (s.heap.objs.size + 1) scope.names (cloFrom X.env.cells scope.names [])) s.heap.objs.size X.env) fp) [] (wipe σ (own.map (·.2))) H { s with heap := pushCells (s.heap.push { cls := .type "dict", data := .dict #[] }) scope.names } := by
  have hfree : ∀ y ∈ scope.names, y.2 = .free → ∃ c, X.env.cells.lookup y.1 = some c := fun y hy e => by
    rcases ok.free y hy e with k | k
    · exact I.ok.has _ (.inl k)
    · exact I.ok.has _ (.inr k)
  generalize hcenv : compEnvC scope (cellsFrom (s.heap.objs.size + 1) scope.names (cloFrom X.env.cells scope.names [])) s.heap.objs.size X.env = cenv
  have kp : ∀ b o, s.heap.get? b = some o → (pushCells (s.heap.push { cls := .type "dict", data := .dict #[] }) scope.names).get? b = some o := fun b o e => pushCells_keeps _ _ _ _ (Heap.get?_push_of_some _ e)
  have hL : cenv.locals = s.heap.objs.size := by rw [← hcenv]; rfl
  have hcl : cenv.cells = cellsFrom (s.heap.objs.size + 1) scope.names (cloFrom X.env.cells scope.names []) := by rw [← hcenv]; rfl
  have hsc : cenv.scope = relS scope X.env.scope := by rw [← hcenv]; rfl
  rw [← Heap.size_push s.heap { cls := .type "dict", data := .dict #[] }] at hcl
  have cm : ∀ {y c}, (y, c) ∈ cloFrom X.env.cells scope.names [] → X.env.cells.lookup y = some c ∧ c < s.heap.objs.size := fun {y c} hm => by
    rcases cloFrom_mem hm with hm | ⟨h1, rfl⟩
    · cases hm
    · obtain ⟨c, hc⟩ := hfree _ h1 rfl
      rw [hc]
      obtain ⟨w, z⟩ := I.cell _ _ hc
      exact ⟨rfl, z.lt⟩
  have mem : ∀ {y c}, cenv.cells.lookup y = some c → (X.env.cells.lookup y = some c ∧ c < s.heap.objs.size) ∨ (s.heap.objs.size + 1 ≤ c ∧ CellAt (pushCells (s.heap.push { cls := .type "dict", data := .dict #[] }) scope.names) c none) := fun {y c} e => by
    rw [hcl] at e
    rcases cells_mem (PySem.mem_of_lookup e) with hm | ⟨_, h2, h3⟩
    · exact .inl (cm hm)
    · rw [Heap.size_push] at h2; exact .inr ⟨h2, h3⟩
  have look : ∀ {y}, scope.names.lookup y = some .free → ∃ c, cenv.cells.lookup y = some c ∧ X.env.cells.lookup y = some c := fun {y} hl => by
    have hy : (y, NameKind.free) ∈ scope.names := PySem.mem_of_lookup hl
    obtain ⟨c', e'⟩ := mem_lookup (cells_acc (names := scope.names) (n := (s.heap.push { cls := .type "dict", data := .dict #[] }).objs.size) (cloFrom_has (cells := X.env.cells) (acc := []) hy))
    rw [← hcl] at e'
    refine ⟨c', e', ?_⟩
    rw [hcl] at e'
    rcases cells_mem (PySem.mem_of_lookup e') with hm | ⟨h1, _, _⟩
    · exact (cm hm).1
    · have := ok.uniq _ h1
      rw [hl] at this; cases this
  have okB : (X.blk s H scope cenv fp).Ok := by
    refine ⟨I.ok.mod, by show cenv.scope.kind = _; rw [hsc]; exact ok.kind, by show cenv.globals = _; rw [← hcenv]; exact I.ok.glob, by show cenv.builtins = _; rw [← hcenv]; exact I.ok.blt, by show s.heap.objs.size ≤ cenv.locals; rw [hL]; exact Nat.le_refl _,
      fun y z c e1 e2 => ?_, fun y hy => ?_, fun y c z e => ?_, I.ok.hd, I.ok.frames, .inl rfl, fun b hb => ⟨?_, fun y c e z => ?_⟩, I.bs, Nat.le_trans I.ok.bsz I.sz, fun b o e hb => ?_, fun b hb z => ?_, I.stack, I.stkFree⟩
    · have e1 : cenv.cells.lookup y = some c := e1
      have e2 : cenv.cells.lookup z = some c := e2
      rw [hcl] at e1 e2
      refine cells_inj (fun p hp => ?_) (fun y z c a b => I.ok.inj y z c (cm a).1 (cm b).1) (PySem.mem_of_lookup e1) (PySem.mem_of_lookup e2)
      rw [Heap.size_push]
      exact Nat.lt_succ_of_lt (cm (y := p.1) (c := p.2) hp).2
    · show ∃ c, cenv.cells.lookup y = some c
      have key : ∀ k, cenv.kindOf y = some k → (k = .cell ∨ k = .free) → ∃ c, cenv.cells.lookup y = some c := fun k hk hk' => by
        unfold Env.kindOf at hk
        rw [hsc] at hk
        obtain ⟨k', e, r⟩ := lookup_relS hk
        have : k' = .cell ∨ k' = .free := by
          rcases r with rfl | ⟨rfl, _⟩
          · exact hk'
          · exact .inr rfl
        rcases this with rfl | rfl
        · obtain ⟨c, hm⟩ := cells_has (n := (s.heap.push { cls := .type "dict", data := .dict #[] }).objs.size) (acc := cloFrom X.env.cells scope.names []) (PySem.mem_of_lookup e)
          obtain ⟨c', e'⟩ := mem_lookup hm
          exact ⟨c', by rw [hcl]; exact e'⟩
        · obtain ⟨c, h1, _⟩ := look e
          exact ⟨c, h1⟩
      rcases hy with hy | hy
      · exact key _ hy (.inl rfl)
      · exact key _ hy (.inr rfl)
    · have z : (scope.names.lookup y == some NameKind.cell) = true := z
      have z : scope.names.lookup y = some .cell := by simpa using z
      have e : cenv.cells.lookup y = some c := e
      rw [hcl] at e
      rcases cells_mem (PySem.mem_of_lookup e) with hm | ⟨_, h2, _⟩
      · rcases cloFrom_mem hm with hm | ⟨h1, _⟩
        · cases hm
        · have q := ok.uniq _ h1
          rw [z] at q; cases q
      · rw [Heap.size_push] at h2
        exact Nat.le_of_succ_le h2
    · show b ≠ cenv.locals
      rw [hL]; exact Nat.ne_of_lt (hfp b hb).2
    · have e : cenv.cells.lookup y = some c := e
      rcases mem e with ⟨h1, _⟩ | ⟨h1, _⟩
      · exact (hfp b hb).1.2.2.2.2.1 y c h1 z
      · have h2 : s.heap.objs.size + 1 ≤ b := by rw [← z]; exact h1
        exact absurd (Nat.lt_of_lt_of_le (hfp b hb).2 (Nat.le_of_succ_le h2)) (Nat.lt_irrefl _)
    · rcases (hfp b hb).1.2.2.2.1 with z | z
      · exact I.ok.noex b o e z
      · exact absurd (Nat.lt_of_lt_of_le (Heap.lt_size e) (Nat.le_trans I.ok.bsz z)) (Nat.lt_irrefl _)
    · rcases List.mem_cons.mp (I.stkSub b z) with z | z
      · exact (hfp b hb).1.2.1 z
      · exact (hfp b hb).1.2.2.1 z
  refine ⟨okB, rfl, I.bare, Un.kept kp, ⟨fun _ => none, ?_, fun i y av e1 e2 e3 => ?_⟩, fun y c e => ?_, ?_, fun y c e => ?_, fun p hp => ?_, I.hok.kept kp, by rw [wipe_length]; exact I.len⟩
  · show Heap.Ns _ cenv.locals _
    rw [hL]
    exact Heap.Ns.keeps (Heap.Ns.new ..) fun b o e => pushCells_keeps _ _ _ _ e
  · obtain ⟨e2, hne⟩ := wipe_some e2
    have hfr : scope.names.lookup y = some .free ∧ (cenv.kindOf y = some .cell ∨ cenv.kindOf y = some .free) := by
      have key : ∀ k, cenv.scope.names.lookup y = some k → k = .local ∨ k = .cell ∨ k = .free → scope.names.lookup y = some .free ∧ (cenv.kindOf y = some .cell ∨ cenv.kindOf y = some .free) := fun k hk hk' => by
        have hk0 := hk
        rw [hsc] at hk
        obtain ⟨k', e, r⟩ := lookup_relS hk
        have no : ¬ (k' = .local ∨ k' = .cell) := fun hh => by
          rcases ok.own _ (PySem.mem_of_lookup e) hh with e' | e'
          · obtain ⟨p, hp, hpy⟩ := List.mem_map.mp e'
            have e3 := ok.ix p hp
            have : p.1 = y := hpy
            rw [this] at e3
            exact hne (List.mem_map.mpr ⟨p, hp, nodup_ix hN e3 e1⟩)
          · exact e' (List.mem_of_getElem? e1)
        rcases r with rfl | ⟨rfl, rfl⟩
        · rcases hk' with rfl | rfl | rfl
          · exact absurd (.inl rfl) no
          · exact absurd (.inr rfl) no
          · exact ⟨e, .inr hk0⟩
        · exact ⟨e, .inl hk0⟩
      have e3 : Vis cenv.scope y := e3
      rcases e3 with e3 | e3 | e3
      · exact key _ e3 (.inl rfl)
      · exact key _ e3 (.inr (.inl rfl))
      · exact key _ e3 (.inr (.inr rfl))
    obtain ⟨m, hn, hl⟩ := I.loc
    have hvis : Vis X.env.scope y := (ok.free _ (PySem.mem_of_lookup hfr.1) rfl).elim (fun k => .inr (.inl k)) (fun k => .inr (.inr k))
    obtain ⟨w, r, q⟩ := hl i y av e1 e2 hvis
    refine ⟨w, r, .inr ⟨hfr.2, ?_⟩⟩
    obtain ⟨c, h1, h2⟩ := look hfr.1
    rcases q with ⟨k, _⟩ | ⟨_, c', e', z⟩
    · have k : X.env.scope.names.lookup y = some .local := k
      rcases ok.free _ (PySem.mem_of_lookup hfr.1) rfl with k' | k' <;> rw [show X.env.scope.names.lookup y = _ from k'] at k <;> cases k
    · rw [h2] at e'; cases e'
      exact ⟨c, h1, z.keeps kp⟩
  · have e : cenv.cells.lookup y = some c := e
    rcases mem e with ⟨h1, _⟩ | ⟨_, z⟩
    · obtain ⟨w, z⟩ := I.cell y c h1
      exact ⟨w, z.keeps kp⟩
    · exact ⟨_, z⟩
  · show H cenv.locals = none
    rw [hL]; exact I.hok.fresh (Nat.le_refl _)
  · have e : cenv.cells.lookup y = some c := e
    rcases mem e with ⟨h1, _⟩ | ⟨h1, _⟩
    · exact I.freeC y c h1
    · exact I.hok.fresh (Nat.le_of_succ_le h1)
  · exact absurd (show p ∈ ([] : List (Addr × Obj)) ++ [] from hp) (by simp)

/-- an item appended to a tracked list -/
theorem app_ok {E : Value → Shared → Prop} {D : Addr} {xs : List V} {y : V} {v : Value} {Q : Value → Shared → Prop} (I : Inv X pins σ H s) (hD : H D = some (.lst xs)) (hz : xs.length < sizeLine) (r : RelV y v)
    (h : ∀ s', Inv X pins σ (upd H D (.lst (xs ++ [y]))) s' → Q .none s') : wpAny (model X.prog X.w) X.A (call (.builtin "list.append") [.ref D, v]) Q E s := by
  obtain ⟨hz', its, n, ri, e⟩ := I.hok D _ hD
  have hl := ri.length
  refine append_at (hsz := by rw [List.size_toArray]; omega) e fun h' sb ho' => ?_
  refine h { s with heap := h' } (I.write (t' := s.toks) (by rw [hD]; trivial) (.inl rfl) (fun b u hb q => (sb.2 b hb).trans q) ⟨_, ho'⟩ ⟨by rw [List.length_append]; exact hz, its ++ [v], n + 1, ri.append (.cons r .nil), ?_⟩)
  rw [ho']
  simp

/-- a clause's tests -/
def PTs (X : Cx) (ifs : List Expr) (t : TT) : Prop :=
  ∀ (pins : List (Addr × Obj)) (s : Shared) (σ : St) (H : Hp) (Q : Bool → Hp → Prop), Inv X pins σ H s → t σ H Q →
    wpAny (model X.prog X.w) X.A (forIn ifs true fun c r => if r = true then do let ok ← isTrue c X.env (eval c X.env); pure (ForInStep.yield ok) else pure (ForInStep.yield r)) (TP X pins σ Q) X.xe s
def tYes : TT := fun _ H Q => Q true H
theorem pts_nil : PTs X [] tYes := fun _ _ _ H _ I h => wpAny_tests_nil ⟨H, I, h⟩
theorem pts_one {c : Expr} {t : TT} (h : PT X c t) : PTs X [c] t := fun pins s σ H Q I hw => wpAny_tests_one (h pins s σ H Q I hw)
end

theorem thnF {α : Type} {t : Sem α} {Q Q' : α → Shared → Prop} {M : Model} {A : Around} {E : Value → Shared → Prop} {s : Shared} (h : wpAny M A t Q (fun _ _ => False) s) (hQ : ∀ a s, Q a s → Q' a s) : wpAny M A t Q' E s := wpAny_mono h hQ fun _ _ z => False.elim z

/-- the loop of a list comprehension's block, the target of any form (codeAny_compLoop_tests asks a target that no tuple goes to; statement and proof follow it, PyProof/CompMap.lean:41-61, with the step letOwnedTupleGo kept) -/
theorem compLoop_any {prog : Program} {w : World} {A : Around} {R : Result → Shared → Prop} {s : Shared} {elt target iter : Expr} {ifs : List Expr} {scope : Scope} {pos : Pos} {it acc : Value} {env : Env} (I : Nat → Shared → Prop)
    (turn : ∀ n s, I n s → wpAny (model prog w) A (pyNext it) (fun r s₁ => match r with
      | none => R (.ok .next) s₁
      | some v => wpAny (model prog w) A (letOwnedTupleGo target it v) (fun _ s₁' => wpAny (model prog w) A (assign target env v) (fun _ s₂ =>
          wpAny (model prog w) A (forIn ifs true fun c r => if r = true then do let ok ← isTrue c env (eval c env); pure (ForInStep.yield ok) else pure (ForInStep.yield r)) (fun ok s₃ =>
            if ok = true then wpAny (model prog w) A (eval elt env) (fun x s₄ =>
              wpAny (model prog w) A (call (.builtin "list.append") [acc, x]) (fun _ s₅ => ∃ m, m < n ∧ I m s₅) (notedBy (model prog w) A env fun e s' => R (.error e) s') s₄) (notedBy (model prog w) A env fun e s' => R (.error e) s') s₃
            else ∃ m, m < n ∧ I m s₃) (notedBy (model prog w) A env fun e s' => R (.error e) s') s₂) (notedBy (model prog w) A env fun e s' => R (.error e) s') s₁') (notedBy (model prog w) A env fun e s' => R (.error e) s') s₁) (notedBy (model prog w) A env fun e s' => R (.error e) s') s)
    (n : Nat) (h : I n s) :
    codeAny (model prog w) A (.compLoop (.ListComp elt [⟨target, iter, ifs, 0⟩] scope pos) 0 it acc env) R s := by
  refine codeAny_loop rfl I (fun n s hI => ?_) n h
  show wpAny _ A ((compTurn (.ListComp elt [⟨target, iter, ifs, 0⟩] scope pos) 0 it acc env).onRaise (fun x => do noteFrame x env; theTreesLotGoes x)) _ _ s
  refine wpAny_noted ?_
  rw [compTurn_list]
  refine wpAny_bind (wpAny_standAt (wpAny_bind (wpAny_mono (turn n s hI) (fun r s₁ h₁ => ?_) fun _ _ h' => h')))
  cases r with
  | none => exact wpAny_pure h₁
  | some v =>
    refine wpAny_bind (wpAny_mono h₁ (fun _ s₁' h₁' => ?_) fun _ _ h' => h')
    refine wpAny_bind (wpAny_mono h₁' (fun _ s₂ h₂ => wpAny_bind (wpAny_mono h₂ (fun ok s₃ h₃ => ?_) fun _ _ h' => h')) fun _ _ h' => h')
    cases ok with
    | false => exact wpAny_pure ⟨rfl, h₃⟩
    | true =>
      exact wpAny_bind (wpAny_bind (wpAny_mono h₃ (fun x s₄ h₄ => wpAny_bind (wpAny_mono h₄ (fun _ s₅ h₅ => wpAny_pure (wpAny_pure ⟨rfl, h₅⟩)) fun _ _ h' => h')) fun _ _ h' => h'))

section
variable {X : Cx}
/-- [elt for target in iter if ..]: D the new list; W by the turn and a measure, Nx what a turn is to reach -/
def tLc (wi : TI) (g : TG) (tt : TT) (te : TE) (vs : List Nat) : TE := fun σ H Q => wi σ H fun J H1 => ∀ D, H1 D = none ∧ D ≠ sysModules → ∃ W : Nat → Nat → Hp → Prop, (∃ m, W 0 m (upd H1 D (.lst []))) ∧ ∀ i m H, W i m H →
  (J.stop i H ∧ Q (.ref D) H) ∨ (J.go i H ∧ ∃ Nx : Hp → Prop, (∀ H', Nx H' → ∃ m', m' < m ∧ W (i + 1) m' H') ∧ ∀ x H', J.yld i H x H' → g x (wipe σ vs) H' fun σ2 H2 => wipe σ2 vs = wipe σ vs ∧ tt σ2 H2 fun b H3 =>
    if b = true then te σ2 H3 fun y H4 => ∃ acc, H4 D = some (.lst acc) ∧ acc.length < sizeLine ∧ Nx (upd H4 D (.lst (acc ++ [y]))) else Nx H3)
theorem lc_core {pins : List (Addr × Obj)} {s : Shared} {σ : St} {H : Hp} {Q : VK} {elt tg iter : Expr} {ifs : List Expr} {scope : Scope} {own : List (Str × Nat)} {pos pos' : Pos} {wi : TI} {g : TG} {tt : TT} {te : TE} {use : Option (Value → Sem Unit)} {Qf : Value → Shared → Prop}
    (hc : X.calm = true) (hN : X.N.Nodup) (I : Inv X pins σ H s) (hi : PI X tg iter wi) (ok : BlkOk X.N X.env.scope scope own)
    (hg : ∀ (s : Shared) (H : Hp) (C : Addr) (cl : List (Str × Addr)) (fp : List Addr), PG (X.blk s H scope (compEnvC scope cl C X.env) fp) tg g) (ht : ∀ (s : Shared) (H : Hp) (C : Addr) (cl : List (Str × Addr)) (fp : List Addr), PTs (X.blk s H scope (compEnvC scope cl C X.env) fp) ifs tt)
    (he : ∀ (s : Shared) (H : Hp) (C : Addr) (cl : List (Str × Addr)) (fp : List Addr), PE (X.blk s H scope (compEnvC scope cl C X.env) fp) elt te) (hs : ∀ x, foldedSetIterable iter X.env x = pure x)
    (h : tLc wi g tt te (own.map (·.2)) σ H Q)
    (hRR : ∀ D C s' m H', Inv X pins σ H' s' → Q (.ref D) H' → s'.heap.Ns C m → FpOk X pins H' C → compPost (model X.prog X.w) X.A X.xe use Qf (.ref D) C (.ok .next) s') :
    wpAny (model X.prog X.w) X.A (comprehension (.ListComp elt [⟨tg, iter, ifs, 0⟩] scope pos) scope X.env pos' (newList []) false (eval iter X.env) use) Qf X.xe s := by
  have hfree : ∀ y ∈ scope.names, y.2 = .free → ∃ c, X.env.cells.lookup y.1 = some c := fun y hy e => by
    rcases ok.free y hy e with k | k
    · exact I.ok.has _ (.inl k)
    · exact I.ok.has _ (.inr k)
  refine wpAny_comprehension_free (use := use) rfl hs (closure_ok hfree) ok.kind (fun y hy e => by rw [ok.uniq y hy, e])
    (thn (hi pins s σ H _ I h) fun xv s1 hx => thn hx fun itv s2 h2 => ?_)
  obtain ⟨it, fp, tn, J, H2, e, I2, T, st2, f2, q⟩ := h2
  subst e
  refine wpAny_newObj_type (newEnv_comp ?_) (by show 0 ≤ sizeLine; decide)
  generalize hD : s2.heap.objs.size = D
  have hDn : H2 D = none := I2.hok.fresh (Nat.le_of_eq hD)
  obtain ⟨W, ⟨m0, w0⟩, turn⟩ := q D ⟨hDn, by rw [← hD]; exact Nat.ne_of_gt (Nat.lt_trans (by decide) (I2.mod.glob.keeps I2.bk).lt)⟩
  -- the new list
  generalize hs3 : ({ s2 with heap := s2.heap.push { cls := .type "list", data := .seq ([] : List Value).toArray } } : Shared) = s3
  have I3 : Inv X pins σ (upd H2 D (.lst [])) s3 := by
    rw [← hs3]
    refine I2.laid (t' := s2.toks) (fun b o e => Heap.get?_push_of_some _ e) (Nat.le_of_eq hD) ⟨Nat.zero_le _, [], 0, .nil, ?_⟩
    rw [← hD]
    exact Heap.get?_push_size _ rfl
  have h3 : s3.heap = s2.heap.push { cls := .type "list", data := .seq ([] : List Value).toArray } := by rw [← hs3]
  have sz : ∀ b ∈ fp, b < s2.heap.objs.size := fun b hb => by
    obtain ⟨o, e, _⟩ := T.obj _ _ st2 b hb
    exact Heap.lt_size e
  have f3 : ∀ b ∈ fp, FpOk X pins (upd H2 D (.lst [])) b ∧ b < s3.heap.objs.size := fun b hb => by
    have hlt := sz b hb
    refine ⟨⟨?_, (f2 b hb).2⟩, by rw [h3, Heap.size_push]; exact Nat.lt_succ_of_lt hlt⟩
    rw [upd_ne (by rw [← hD]; exact Nat.ne_of_lt hlt)]
    exact (f2 b hb).1
  have st3 : tn 0 s3.heap := T.keep _ _ _ st2 fun b _ o e => by rw [h3]; exact Heap.get?_push_of_some _ e
  have I4 := block_start I3 ok hN f3
  have pg := hg s3 (upd H2 D (.lst [])) s3.heap.objs.size (cellsFrom (s3.heap.objs.size + 1) scope.names (cloFrom X.env.cells scope.names [])) fp
  have pt := ht s3 (upd H2 D (.lst [])) s3.heap.objs.size (cellsFrom (s3.heap.objs.size + 1) scope.names (cloFrom X.env.cells scope.names [])) fp
  have pe := he s3 (upd H2 D (.lst [])) s3.heap.objs.size (cellsFrom (s3.heap.objs.size + 1) scope.names (cloFrom X.env.cells scope.names [])) fp
  show codeAny _ _ (.compStart (.ListComp elt [⟨tg, iter, ifs, 0⟩] scope pos) 0 (.ref it) (.ref D) (compEnvC scope (cellsFrom (s3.heap.objs.size + 1) scope.names (cloFrom X.env.cells scope.names [])) s3.heap.objs.size X.env)) (compPost (model X.prog X.w) X.A X.xe use Qf (.ref D) s3.heap.objs.size) { s3 with heap := pushCells (s3.heap.push { cls := .type "dict", data := .dict #[] }) scope.names }
  have nfp : ∀ b ∈ fp, (upd H2 D (.lst [])) b = none := fun b hb => (f3 b hb).1.1
  generalize hce : compEnvC scope (cellsFrom (s3.heap.objs.size + 1) scope.names (cloFrom X.env.cells scope.names [])) s3.heap.objs.size X.env = ce at I4 pg pt pe ⊢
  have cL : ce.locals = s3.heap.objs.size := by subst hce; rfl
  generalize hH3 : upd H2 D (.lst []) = H3 at I3 I4 pg pt pe w0 nfp f3
  generalize hs4 : ({ s3 with heap := pushCells (s3.heap.push { cls := .type "dict", data := .dict #[] }) scope.names } : Shared) = s4 at I4 ⊢
  have st4 : tn 0 s4.heap := T.keep _ _ _ st3 fun b _ o e => by rw [← hs4]; exact pushCells_keeps _ _ _ _ (Heap.get?_push_of_some _ e)
  have stat : ∀ {σ' : St} {H' : Hp} {s' : Shared}, Inv (X.blk s3 H3 scope ce fp) [] σ' H' s' → (∀ b ∈ fp, H' b = none) → ∀ b ∈ fp, FpOk (X.blk s3 H3 scope ce fp) [] H' b := fun {σ' H' s'} I' hn b hb =>
    ⟨hn b hb, (I'.ok.exf b hb).1, I'.ok.exfs b hb, .inl hb, fun x c e => (I'.ok.exf b hb).2 x c e, fun p hp => absurd (show p ∈ ([] : List (Addr × Obj)) ++ [] from hp) (by simp)⟩
  have loop : codeAny (model X.prog X.w) X.A (.compLoop (.ListComp elt [⟨tg, iter, ifs, 0⟩] scope pos) 0 (.ref it) (.ref D) ce) (compPost (model X.prog X.w) X.A X.xe use Qf (.ref D) s3.heap.objs.size) s4 := by
    refine compLoop_any (fun n s' => ∃ i H', Inv (X.blk s3 H3 scope ce fp) [] (wipe σ (own.map (·.2))) H' s' ∧ tn i s'.heap ∧ (∀ b ∈ fp, H' b = none) ∧ W i n H') ?_ m0 ⟨0, H3, I4, st4, nfp, w0⟩
    rintro n s5 ⟨i, H5, I5, st5, n5, w5⟩
    rcases turn i n H5 w5 with ⟨stop, qq⟩ | ⟨go, Nx, hNx, step⟩
    · have td := T.done (X.blk s3 H3 scope ce fp) rfl rfl rfl hc i [] s5 _ H5 (fun _ _ => False) I5 (stat I5 n5) st5 stop
      refine thnF td fun r s6 ⟨hr, I6⟩ => ?_
      subst hr
      -- back in the def's context
      have I7 : Inv X pins σ H5 s6 := I3.call' (ch := fp) I6.os I6.base I6.hok I6.bare fun b hb => ⟨(f3 b hb).1.2.2.2.1, (f3 b hb).1.2.1, (f3 b hb).1.2.2.2.2.1, (f3 b hb).1.2.2.2.2.2⟩
      have nC : H5 s3.heap.objs.size = none := by
        have z : H5 ce.locals = none := I6.free
        rw [cL] at z
        exact z
      obtain ⟨m, hn, _⟩ := I6.loc
      have hn : s6.heap.Ns ce.locals m := hn
      rw [cL] at hn
      exact hRR D s3.heap.objs.size s6 m H5 I7 qq hn (I3.fpOk (Nat.le_refl _) nC)
    · have ti := T.item (X.blk s3 H3 scope ce fp) rfl rfl rfl hc i [] s5 _ H5 (fun _ _ => False) I5 (stat I5 n5) st5 go
      refine thnF ti fun r s6 ⟨u, hr, h6⟩ => ?_
      subst hr
      refine thnF h6 fun _ s7 ⟨x, H7, I7, r7, y7, st7, n7⟩ => ?_
      have I7' := I7.pinned (stat I7 n7) (T.obj _ _ st7)
      refine thnF (pg _ s7 _ H7 x u _ I7' r7 (step x H7 y7)) fun _ s8 ⟨σ8, H8, I8, hw8, q8⟩ => ?_
      refine thnF (pt _ s8 σ8 H8 _ I8 q8) fun b s9 ⟨H9, I9, q9⟩ => ?_
      -- the turn's end
      have fin : ∀ {s' : Shared} {H' : Hp}, Inv (X.blk s3 H3 scope ce fp) ([] ++ pinsAt fp s7.heap) σ8 H' s' → Nx H' → ∃ m, m < n ∧ ∃ i H', Inv (X.blk s3 H3 scope ce fp) [] (wipe σ (own.map (·.2))) H' s' ∧ tn i s'.heap ∧ (∀ b ∈ fp, H' b = none) ∧ W i m H' := fun {s' H'} I' nx => by
        obtain ⟨m', hm, w'⟩ := hNx H' nx
        have pin' : ∀ b ∈ fp, ∀ o, s7.heap.get? b = some o → s'.heap.get? b = some o ∧ H' b = none := fun b hb o e =>
          let z := I'.pin (b, o) (List.mem_append_right _ (List.mem_append_right _ (mem_pinsAt hb e)))
          ⟨z.1, z.2.1⟩
        have hl : (wipe σ (own.map (·.2))).length = σ8.length := by rw [← hw8, wipe_length]
        refine ⟨m', hm, i + 1, H', (I'.unpinned (pins := [])).weak hl (fun j v e => ?_), T.keep _ _ _ st7 fun b hb o e => (pin' b hb o e).1, fun b hb => ?_, w'⟩
        · rw [← hw8] at e
          exact (wipe_some e).1
        · obtain ⟨o, e, _⟩ := T.obj _ _ st7 b hb
          exact (pin' b hb o e).2
      cases b with
      | false =>
        simp only [Bool.false_eq_true, if_false] at q9 ⊢
        exact fin I9 q9
      | true =>
        simp only [if_true] at q9 ⊢
        refine thnF (pe _ s9 σ8 H9 _ I9 q9) fun z s10 ⟨yv, H10, I10, r10, acc, hD10, hz10, nx⟩ => ?_
        exact app_ok (X := X.blk s3 H3 scope ce fp) I10 hD10 hz10 r10 fun s11 I11 => fin I11 nx
  exact codeAny_compStart_list loop (T.self X.A 0 _ _ _ st4 loop)
/-- as a value -/
theorem pe_lc {elt tg iter : Expr} {ifs : List Expr} {scope : Scope} {own : List (Str × Nat)} {pos : Pos} {wi : TI} {g : TG} {tt : TT} {te : TE} (hc : X.calm = true) (hN : X.N.Nodup) (hi : PI X tg iter wi) (ok : BlkOk X.N X.env.scope scope own)
    (hg : ∀ (s : Shared) (H : Hp) (C : Addr) (cl : List (Str × Addr)) (fp : List Addr), PG (X.blk s H scope (compEnvC scope cl C X.env) fp) tg g) (ht : ∀ (s : Shared) (H : Hp) (C : Addr) (cl : List (Str × Addr)) (fp : List Addr), PTs (X.blk s H scope (compEnvC scope cl C X.env) fp) ifs tt)
    (he : ∀ (s : Shared) (H : Hp) (C : Addr) (cl : List (Str × Addr)) (fp : List Addr), PE (X.blk s H scope (compEnvC scope cl C X.env) fp) elt te) (hs : ∀ x, foldedSetIterable iter X.env x = pure x := by intro _; rfl) :
    PE X (.ListComp elt [⟨tg, iter, ifs, 0⟩] scope pos) (tLc wi g tt te (own.map (·.2))) := by
  intro pins s σ H Q I h
  rw [eval_ListComp]
  refine lc_core hc hN I hi ok hg ht he hs h fun D C s' m H' I' q hn f => ⟨m, hn, fun h'' sb => ?_⟩
  obtain ⟨f0, f1, f2, f3, f4, f5⟩ := f
  exact ⟨.ref D, H', I'.turned (t' := s'.toks) (fun b o hb e => (sb.2 b hb).trans e) f0 f1 f3 f4 f5, rfl, q⟩
/-- name = [..] on one line, the name a local -/
theorem ps_setLc {i : Nat} {y : Str} {py : Pos} {elt tg iter : Expr} {ifs : List Expr} {scope : Scope} {own : List (Str × Nat)} {pos spos : Pos} {wi : TI} {g : TG} {tt : TT} {te : TE} (hc : X.calm = true) (hN : X.N.Nodup) (hy : X.N[i]? = some y) (hyl : X.env.scope.names.lookup y = some .local)
    (hsw : swapsWith (.ListComp elt [⟨tg, iter, ifs, 0⟩] scope pos) (some (.Name y py)) spos.line X.env = pure true) (hi : PI X tg iter wi) (ok : BlkOk X.N X.env.scope scope own)
    (hg : ∀ (s : Shared) (H : Hp) (C : Addr) (cl : List (Str × Addr)) (fp : List Addr), PG (X.blk s H scope (compEnvC scope cl C X.env) fp) tg g) (ht : ∀ (s : Shared) (H : Hp) (C : Addr) (cl : List (Str × Addr)) (fp : List Addr), PTs (X.blk s H scope (compEnvC scope cl C X.env) fp) ifs tt)
    (he : ∀ (s : Shared) (H : Hp) (C : Addr) (cl : List (Str × Addr)) (fp : List Addr), PE (X.blk s H scope (compEnvC scope cl C X.env) fp) elt te) (hs : ∀ x, foldedSetIterable iter X.env x = pure x := by intro _; rfl) :
    PS X (.Assign [.Name y py] (.ListComp elt [⟨tg, iter, ifs, 0⟩] scope pos) spos) (tAsg (tLc wi g tt te (own.map (·.2))) (gName i)) := by
  intro pins s σ H D I h
  rw [exec_Assign_Name_used _ _ _ _ hsw]
  refine wpAny_bind (wpAny_standAt (wpAny_bind ?_))
  show wpAny _ X.A (do let _ ← comprehension (.ListComp elt [⟨tg, iter, ifs, 0⟩] scope pos) scope X.env (firstIterPos [⟨tg, iter, ifs, 0⟩] pos) (newList []) false (eval iter X.env) (some (assign (.Name y py) X.env))) _ _ s
  have h : tLc wi g tt te (own.map (·.2)) σ H (fun x H1 => gName i x σ H1 D.nx) := h
  refine wpAny_bind (thn (lc_core (Qf := fun _ s' => SP X pins D .next s') hc hN I hi ok hg ht he hs h fun L C s' m H' I' q hn f => ?_) fun _ s' hq => wpAny_pure (wpAny_pure hq))
  show wpAny _ _ (assign (.Name y py) X.env (.ref L)) _ _ _
  refine wpAny_assign_Name (store_ok2 (v := V.ref L) I' hN hy (.inl hyl) rfl (fun s2 I2 ⟨a, sb, ha⟩ => ?_) (.inr hyl))
  obtain ⟨f0, f1, f2, f3, f4, f5⟩ := f
  have haC : C ≠ a := by
    rcases ha with z | z
    · rw [z]; exact f1
    · exact fun e => f4 y a z e.symm
  refine ⟨m, hn.sameBut sb haC, fun h3 sb3 => ?_⟩
  exact ⟨_, H', I2.turned (t' := s2.toks) (fun b o hb e => (sb3.2 b hb).trans e) f0 f1 f3 f4 f5, q⟩
end

/-! ### the forms one uses -/
/-- over a range: Pv by the turn and the heap (the new list at D within) -/
theorem lc_range {lo : Int} {n : Nat} {g : TG} {tt : TT} {te : TE} {vs : List Nat} {σ : St} {H1 : Hp} {D : Addr} {Qd : Hp → Prop} (Pv : Nat → Hp → Prop) (h0 : Pv 0 (upd H1 D (.lst [])))
    (hs : ∀ i H, i < n → Pv i H → g (.int (lo + i)) (wipe σ vs) H fun σ2 H2 => wipe σ2 vs = wipe σ vs ∧ tt σ2 H2 fun b H3 =>
      if b = true then te σ2 H3 fun y H4 => ∃ acc, H4 D = some (.lst acc) ∧ acc.length < sizeLine ∧ Pv (i + 1) (upd H4 D (.lst (acc ++ [y]))) else Pv (i + 1) H3) (hd : ∀ H, Pv n H → Qd H) :
    ∃ W : Nat → Nat → Hp → Prop, (∃ m, W 0 m (upd H1 D (.lst []))) ∧ ∀ i m H, W i m H →
      ((Itr lo n).stop i H ∧ Qd H) ∨ ((Itr lo n).go i H ∧ ∃ Nx : Hp → Prop, (∀ H', Nx H' → ∃ m', m' < m ∧ W (i + 1) m' H') ∧ ∀ x H', (Itr lo n).yld i H x H' → g x (wipe σ vs) H' fun σ2 H2 => wipe σ2 vs = wipe σ vs ∧ tt σ2 H2 fun b H3 =>
        if b = true then te σ2 H3 fun y H4 => ∃ acc, H4 D = some (.lst acc) ∧ acc.length < sizeLine ∧ Nx (upd H4 D (.lst (acc ++ [y]))) else Nx H3) := by
  refine ⟨fun i m H => m = n - i ∧ i ≤ n ∧ Pv i H, ⟨n, by simp, Nat.zero_le _, h0⟩, ?_⟩
  rintro i m H ⟨rfl, hi, p⟩
  by_cases hlt : i < n
  · refine .inr ⟨hlt, Pv (i + 1), fun H' p' => ⟨n - (i + 1), by omega, rfl, hlt, p'⟩, fun x H' y => ?_⟩
    obtain ⟨e, y⟩ := y
    subst e y
    exact hs i _ hlt p
  · have e : i = n := by omega
    subst e
    exact .inl ⟨Nat.le_refl _, hd H p⟩
/-- over a list that the block leaves as it is -/
theorem lc_list {K : PySem.W.Frag} {a : Addr} {xs : List V} {g : TG} {tt : TT} {te : TE} {vs : List Nat} {σ : St} {H1 : Hp} {D : Addr} {Qd : Hp → Prop} (Pv : Nat → Hp → Prop) (h0 : Pv 0 (upd H1 D (.lst []))) (hl : ∀ i H, i ≤ xs.length → Pv i H → SqL K H a xs)
    (hs : ∀ i x H, xs[i]? = some x → Pv i H → g x (wipe σ vs) H fun σ2 H2 => wipe σ2 vs = wipe σ vs ∧ tt σ2 H2 fun b H3 =>
      if b = true then te σ2 H3 fun y H4 => ∃ acc, H4 D = some (.lst acc) ∧ acc.length < sizeLine ∧ Pv (i + 1) (upd H4 D (.lst (acc ++ [y]))) else Pv (i + 1) H3) (hd : ∀ H, Pv xs.length H → Qd H) :
    ∃ W : Nat → Nat → Hp → Prop, (∃ m, W 0 m (upd H1 D (.lst []))) ∧ ∀ i m H, W i m H →
      ((Itl K a).stop i H ∧ Qd H) ∨ ((Itl K a).go i H ∧ ∃ Nx : Hp → Prop, (∀ H', Nx H' → ∃ m', m' < m ∧ W (i + 1) m' H') ∧ ∀ x H', (Itl K a).yld i H x H' → g x (wipe σ vs) H' fun σ2 H2 => wipe σ2 vs = wipe σ vs ∧ tt σ2 H2 fun b H3 =>
        if b = true then te σ2 H3 fun y H4 => ∃ acc, H4 D = some (.lst acc) ∧ acc.length < sizeLine ∧ Nx (upd H4 D (.lst (acc ++ [y]))) else Nx H3) := by
  refine ⟨fun i m H => m = xs.length - i ∧ i ≤ xs.length ∧ Pv i H, ⟨xs.length, by simp, Nat.zero_le _, h0⟩, ?_⟩
  rintro i m H ⟨rfl, hi, p⟩
  have q := hl i H hi p
  by_cases hlt : i < xs.length
  · refine .inr ⟨⟨xs, xs[i], q, by simp [hlt]⟩, Pv (i + 1), fun H' p' => ⟨xs.length - (i + 1), by omega, rfl, hlt, p'⟩, fun x H' y => ?_⟩
    obtain ⟨e, y⟩ := y
    subst e
    exact hs i x _ (y xs q) p
  · have e : i = xs.length := by omega
    subst e
    exact .inl ⟨⟨xs, q, Nat.le_refl _⟩, hd H p⟩
/-- over a tuple -/
theorem lc_tup {K : PySem.W.Frag} {a : Addr} {xs : List V} {g : TG} {tt : TT} {te : TE} {vs : List Nat} {σ : St} {H1 : Hp} {D : Addr} {Qd : Hp → Prop} (Pv : Nat → Hp → Prop) (h0 : Pv 0 (upd H1 D (.lst []))) (hl : ∀ i H, i ≤ xs.length → Pv i H → SqT K H a xs)
    (hs : ∀ i x H, xs[i]? = some x → Pv i H → g x (wipe σ vs) H fun σ2 H2 => wipe σ2 vs = wipe σ vs ∧ tt σ2 H2 fun b H3 =>
      if b = true then te σ2 H3 fun y H4 => ∃ acc, H4 D = some (.lst acc) ∧ acc.length < sizeLine ∧ Pv (i + 1) (upd H4 D (.lst (acc ++ [y]))) else Pv (i + 1) H3) (hd : ∀ H, Pv xs.length H → Qd H) :
    ∃ W : Nat → Nat → Hp → Prop, (∃ m, W 0 m (upd H1 D (.lst []))) ∧ ∀ i m H, W i m H →
      ((Itt K a).stop i H ∧ Qd H) ∨ ((Itt K a).go i H ∧ ∃ Nx : Hp → Prop, (∀ H', Nx H' → ∃ m', m' < m ∧ W (i + 1) m' H') ∧ ∀ x H', (Itt K a).yld i H x H' → g x (wipe σ vs) H' fun σ2 H2 => wipe σ2 vs = wipe σ vs ∧ tt σ2 H2 fun b H3 =>
        if b = true then te σ2 H3 fun y H4 => ∃ acc, H4 D = some (.lst acc) ∧ acc.length < sizeLine ∧ Nx (upd H4 D (.lst (acc ++ [y]))) else Nx H3) := by
  refine ⟨fun i m H => m = xs.length - i ∧ i ≤ xs.length ∧ Pv i H, ⟨xs.length, by simp, Nat.zero_le _, h0⟩, ?_⟩
  rintro i m H ⟨rfl, hi, p⟩
  have q := hl i H hi p
  by_cases hlt : i < xs.length
  · refine .inr ⟨⟨xs, xs[i], q, by simp [hlt]⟩, Pv (i + 1), fun H' p' => ⟨xs.length - (i + 1), by omega, rfl, hlt, p'⟩, fun x H' y => ?_⟩
    obtain ⟨e, y⟩ := y
    subst e
    exact hs i x _ (y xs q) p
  · have e : i = xs.length := by omega
    subst e
    exact .inl ⟨⟨xs, q, Nat.le_refl _⟩, hd H p⟩
def blkC (N : List Str) (sc scope : Scope) (own : List (Str × Nat)) : Bool :=
  (match scope.kind with | .function => true | _ => false) && (scope.names.all fun y => decide (scope.names.lookup y.1 = some y.2)) && (own.all fun p => decide (N[p.2]? = some p.1)) &&
    (scope.names.all fun y => match y.2 with
      | .free => (match sc.names.lookup y.1 with | some .cell => true | some .free => true | _ => false)
      | .local => decide (y.1 ∈ own.map (·.1)) || decide (y.1 ∉ N)
      | .cell => decide (y.1 ∈ own.map (·.1)) || decide (y.1 ∉ N)
      | _ => true)
theorem blkOk_by {N : List Str} {sc scope : Scope} {own : List (Str × Nat)} (h : blkC N sc scope own = true) : BlkOk N sc scope own := by
  unfold blkC at h
  simp only [Bool.and_eq_true, List.all_eq_true, decide_eq_true_eq] at h
  obtain ⟨⟨⟨h1, h2⟩, h3⟩, h4⟩ := h
  refine ⟨?_, h2, h3, fun y hy e => ?_, fun y hy e => ?_⟩
  · split at h1
    · assumption
    · cases h1
  · have q := h4 y hy
    simp only [e] at q
    split at q <;> first | exact .inl (by assumption) | exact .inr (by assumption) | cases q
  · have q := h4 y hy
    rcases e with e | e <;> (simp only [e, Bool.or_eq_true, decide_eq_true_eq] at q; exact q)
end L2

namespace L2
open PySem PySem.Spec PyProof.Rows


section
variable {prog : Program} {w : World} {A : Around} {R : Result → Shared → Prop} {s : Shared} {elt t0 i0 t1 i1 : Expr} {ifs0 ifs1 : List Expr} {scope : Scope} {pos : Pos} {it acc : Value} {env : Env}
end

section
variable {X : Cx}
end
end L2

namespace L2
open PySem PySem.Spec PyProof.Rows

/-! ### lists of pairs as tables -/
section
variable {κ : Type} [DecidableEq κ]
def valV (kvs : List (κ × V)) (k : κ) : Option V := (kvs.find? fun kv => decide (kv.1 = k)).map (·.2)
/-- in its place, or at the end -/
def putK (kvs : List (κ × V)) (k : κ) (v : V) : List (κ × V) :=
  if (kvs.any fun kv => decide (kv.1 = k)) = true then kvs.map (fun kv => if kv.1 = k then (kv.1, v) else kv) else kvs ++ [(k, v)]
def dropK (kvs : List (κ × V)) (k : κ) : List (κ × V) := kvs.filter fun kv => decide (kv.1 ≠ k)

theorem valV_pos {p : κ × V} {r : List (κ × V)} {k : κ} (e : p.1 = k) : valV (p :: r) k = some p.2 := by simp [valV, List.find?_cons, e]
theorem valV_neg {p : κ × V} {r : List (κ × V)} {k : κ} (e : ¬ p.1 = k) : valV (p :: r) k = valV r k := by simp [valV, List.find?_cons, e]
theorem valV_any (k : κ) : ∀ kvs : List (κ × V), (kvs.any fun kv => decide (kv.1 = k)) = (valV kvs k).isSome
  | [] => rfl
  | p :: r => by
    rw [List.any_cons]
    by_cases e : p.1 = k
    · simp only [valV_pos e, decide_eq_true e, Bool.true_or, Option.isSome_some]
    · rw [valV_neg e, decide_eq_false e, Bool.false_or]; exact valV_any k r
theorem valV_map (k j : κ) (y : V) : ∀ kvs : List (κ × V), valV (kvs.map fun kv => if kv.1 = k then (kv.1, y) else kv) j = (valV kvs j).map fun x => if j = k then y else x
  | [] => rfl
  | p :: r => by
    have ih := valV_map k j y r
    rw [List.map_cons]
    by_cases h : p.1 = k
    · rw [if_pos h]
      by_cases e : p.1 = j
      · rw [valV_pos (p := (p.1, y)) e, valV_pos e, Option.map_some, if_pos (e.symm.trans h)]
      · rw [valV_neg (p := (p.1, y)) e, valV_neg e, ih]
    · rw [if_neg h]
      by_cases e : p.1 = j
      · rw [valV_pos (p := p) e, valV_pos e, Option.map_some, if_neg (fun z => h (e.trans z))]
      · rw [valV_neg (p := p) e, valV_neg e, ih]
theorem valV_snoc (k j : κ) (y : V) : ∀ kvs : List (κ × V), valV kvs k = none → valV (kvs ++ [(k, y)]) j = if j = k then some y else valV kvs j
  | [], _ => by
    by_cases e : k = j
    · rw [if_pos e.symm]; exact valV_pos (p := (k, y)) e
    · rw [if_neg (fun z => e z.symm)]; exact valV_neg (p := (k, y)) e
  | p :: r, hn => by
    rw [List.cons_append]
    have hk : ¬ p.1 = k := fun z => by rw [valV_pos z] at hn; cases hn
    rw [valV_neg hk] at hn
    have ih := valV_snoc k j y r hn
    by_cases e : p.1 = j
    · rw [valV_pos e, valV_pos e, if_neg (fun z => hk (e.trans z))]
    · rw [valV_neg e, valV_neg e, ih]
theorem valV_put (kvs : List (κ × V)) (k j : κ) (y : V) : valV (putK kvs k y) j = if j = k then some y else valV kvs j := by
  unfold putK
  by_cases a : (kvs.any fun kv => decide (kv.1 = k)) = true
  · rw [if_pos a, valV_map]
    rw [valV_any] at a
    by_cases e : j = k
    · obtain ⟨x, hx⟩ := Option.isSome_iff_exists.mp a
      rw [if_pos e, e, hx, Option.map_some, if_pos rfl]
    · rw [if_neg e]
      cases valV kvs j with
      | none => rfl
      | some x => rw [Option.map_some, if_neg e]
  · rw [if_neg a]
    refine valV_snoc k j y kvs ?_
    rw [valV_any] at a
    cases q : valV kvs k with
    | none => rfl
    | some x => rw [q] at a; exact (a rfl).elim
theorem length_putK (kvs : List (κ × V)) (k : κ) (v : V) : (putK kvs k v).length ≤ kvs.length + 1 := by
  unfold putK
  split
  · rw [List.length_map]; omega
  · rw [List.length_append, List.length_cons, List.length_nil]; omega

theorem RelO.isSome_eq {o : Option V} {u : Option Value} (r : RelO o u) : o.isSome = u.isSome := by
  cases o with
  | none => cases u with
    | none => rfl
    | some _ => exact (show False from r).elim
  | some _ => cases u with
    | none => exact (show False from r).elim
    | some _ => rfl
theorem RelO.getD {o : Option V} {u : Option Value} {d : V} {d' : Value} (r : RelO o u) (rd : RelV d d') : RelV (o.getD d) (u.getD d') := by
  cases o with
  | none => cases u with
    | none => exact rd
    | some _ => exact (show False from r).elim
  | some _ => cases u with
    | none => exact (show False from r).elim
    | some _ => exact r

/-- raw tables of the same keys -/
theorem KV.val {kvs : List (κ × V)} {vs : List (κ × Value)} (r : KV kvs vs) (k : κ) : RelO (valV kvs k) (valueAt vs k) := by
  unfold KV at r
  induction r with
  | nil => exact True.intro
  | @cons p q ps qs h t ih =>
    obtain ⟨h1, h2⟩ := h
    by_cases e : p.1 = k
    · have e' : q.1 = k := h1.symm.trans e
      have b : valueAt (q :: qs) k = some q.2 := by simp [valueAt, List.find?_cons, e']
      rw [valV_pos e, b]; exact h2
    · have e' : ¬ q.1 = k := fun z => e (h1.trans z)
      have b : valueAt (q :: qs) k = valueAt qs k := by simp [valueAt, List.find?_cons, e']
      rw [valV_neg e, b]; exact ih
theorem KV.any {kvs : List (κ × V)} {vs : List (κ × Value)} (r : KV kvs vs) (k : κ) : (kvs.any fun kv => decide (kv.1 = k)) = vs.any fun kv => decide (kv.1 = k) := by
  unfold KV at r
  induction r with
  | nil => rfl
  | cons h t ih => rw [List.any_cons, List.any_cons, ih, h.1]
theorem KV.repl {kvs : List (κ × V)} {vs : List (κ × Value)} (r : KV kvs vs) (k : κ) {y : V} {u : Value} (ry : RelV y u) :
    KV (kvs.map fun kv => if kv.1 = k then (kv.1, y) else kv) (vs.map fun kv => if kv.1 = k then (kv.1, u) else kv) := by
  unfold KV at r ⊢
  induction r with
  | nil => exact .nil
  | @cons p q ps qs h t ih =>
    rw [List.map_cons, List.map_cons]
    refine .cons ?_ ih
    obtain ⟨h1, h2⟩ := h
    by_cases e : p.1 = k
    · rw [if_pos e, if_pos (h1.symm.trans e)]; exact ⟨h1, ry⟩
    · rw [if_neg e, if_neg (fun z => e (h1.trans z))]; exact ⟨h1, h2⟩
theorem KV.put {kvs : List (κ × V)} {vs : List (κ × Value)} (r : KV kvs vs) (k : κ) {y : V} {u : Value} (ry : RelV y u) : KV (putK kvs k y) (stored vs k u) := by
  unfold putK stored
  rw [r.any k]
  by_cases e : (vs.any fun kv => decide (kv.1 = k)) = true
  · rw [if_pos e, if_pos e]; exact r.repl k ry
  · rw [if_neg e, if_neg e]; exact Paired.snoc r ⟨rfl, ry⟩
theorem KV.drop {kvs : List (κ × V)} {vs : List (κ × Value)} (r : KV kvs vs) (k : κ) : KV (dropK kvs k) (without vs k) := by
  unfold KV at r ⊢
  unfold dropK without
  induction r with
  | nil => exact .nil
  | @cons p q ps qs h t ih =>
    obtain ⟨h1, h2⟩ := h
    rw [List.filter_cons, List.filter_cons]
    by_cases e : p.1 = k
    · have a : ¬ decide (p.1 ≠ k) = true := by simp [e]
      have b : ¬ decide (q.1 ≠ k) = true := by simp [h1.symm.trans e]
      rw [if_neg a, if_neg b]; exact ih
    · have e' : ¬ q.1 = k := fun z => e (h1.trans z)
      have a : decide (p.1 ≠ k) = true := by simp [e]
      have b : decide (q.1 ≠ k) = true := by simp [e']
      rw [if_pos a, if_pos b]; exact .cons ⟨h1, h2⟩ ih
theorem KV.keys {kvs : List (κ × V)} {vs : List (κ × Value)} (r : KV kvs vs) : kvs.map (·.1) = vs.map (·.1) := by
  unfold KV at r
  induction r with
  | nil => rfl
  | cons h t ih => rw [List.map_cons, List.map_cons, ih, h.1]
theorem KV.length {kvs : List (κ × V)} {vs : List (κ × Value)} (r : KV kvs vs) : kvs.length = vs.length := Paired.length r
end


/-! ### a tracked dict, its keys ints and texts or tuples of these -/
theorem kV_is {P : Program} {w : World} {k : Key} {u : Value} (r : RelV (kV k) u) : (mixKind P w).is k u = true := by
  cases k with
  | inl i => obtain ⟨t, e⟩ := (show ∃ t, u = Value.int i t from r); subst e; exact mixKind_int P w i t
  | inr x => obtain ⟨t, e⟩ := (show ∃ t, u = Value.str x t from r); subst e; exact mixKind_str P w x t
theorem items_are {P : Program} {w : World} : ∀ {ks : List Key} {us : List Value}, Vals (ks.map kV) us → ItemsAre (mixKind P w) ks us
  | [], _, r => by rw [List.map_nil] at r; cases r; exact .nil
  | k :: ks, _, r => by
    rw [List.map_cons] at r
    cases r with
    | cons h t => exact .cons (kV_is h) (items_are t)

/-- raw entries of a dict with tuple keys -/
abbrev KT (H : Hp) : List (List Key × V) → List (List Key × Addr × Value) → Prop := Paired fun p q => p.1 = q.1 ∧ H q.2.1 = some (.tup (p.1.map kV)) ∧ RelV p.2 q.2.2
theorem KT.val {H : Hp} {kvs : List (List Key × V)} {xs : List (List Key × Addr × Value)} (r : KT H kvs xs) (k : List Key) : RelO (valV kvs k) ((atKey xs k).map (·.2)) := by
  induction r with
  | nil => exact True.intro
  | @cons p q ps qs h t ih =>
    obtain ⟨h1, _, h2⟩ := h
    by_cases e : p.1 = k
    · have e' : q.1 = k := h1.symm.trans e
      have b : atKey (q :: qs) k = some q.2 := by simp [atKey, List.find?_cons, e']
      rw [valV_pos e, b]; exact h2
    · have e' : ¬ q.1 = k := fun z => e (h1.trans z)
      have b : atKey (q :: qs) k = atKey qs k := by simp [atKey, List.find?_cons, e']
      rw [valV_neg e, b]; exact ih
theorem KT.repl {H : Hp} {kvs : List (List Key × V)} {xs : List (List Key × Addr × Value)} (r : KT H kvs xs) (k : List Key) {y : V} {u : Value} (ry : RelV y u) :
    KT H (kvs.map fun kv => if kv.1 = k then (kv.1, y) else kv) (xs.map (putAt k u)) := by
  induction r with
  | nil => exact .nil
  | @cons p q ps qs h t ih =>
    rw [List.map_cons, List.map_cons]
    refine .cons ?_ ih
    obtain ⟨h1, h2, h3⟩ := h
    unfold putAt
    by_cases e : p.1 = k
    · rw [if_pos e, if_pos (h1.symm.trans e)]; exact ⟨h1, h2, ry⟩
    · rw [if_neg e, if_neg (fun z => e (h1.trans z))]; exact ⟨h1, h2, h3⟩
theorem KT.put {H : Hp} {kvs : List (List Key × V)} {xs : List (List Key × Addr × Value)} (r : KT H kvs xs) (k : List Key) {b : Addr} {y : V} {u : Value} (hb : H b = some (.tup (k.map kV))) (ry : RelV y u) :
    KT H (putK kvs k y) (storedH xs k b u) := by
  have e : (kvs.any fun kv => decide (kv.1 = k)) = (atKey xs k).isSome := by
    rw [valV_any, (r.val k).isSome_eq, Option.isSome_map]
  unfold putK storedH
  rw [e]
  by_cases q : (atKey xs k).isSome = true
  · rw [if_pos q, if_pos q]; exact r.repl k ry
  · rw [if_neg q, if_neg q]; exact Paired.snoc r ⟨rfl, hb, ry⟩
theorem KT.keeps {H H' : Hp} {kvs : List (List Key × V)} {xs : List (List Key × Addr × Value)} (r : KT H kvs xs) (ht : ∀ b ys, H b = some (.tup ys) → H' b = some (.tup ys)) : KT H' kvs xs :=
  Paired.mapP r fun _ _ z => ⟨z.1, ht _ _ z.2.1, z.2.2⟩

section
variable {P : Program} {w : World} {H : Hp} {h : Heap} {a : Addr}
theorem rd_of {u : HO} (ok : HOk P w H h) (e : Rd H a u) : ObjOk P w H h a u := e.ok ok
theorem dk_rd {kvs : List (Key × V)} (ok : HOk P w H h) (e : Rd H a (.dK kvs)) : kvs.length ≤ sizeLine ∧ (a == sysModules) = false ∧ ∃ vs, KV kvs vs ∧ h.DictOf (mixKind P w) a vs :=
  show ObjOk P w H h a (.dK kvs) from rd_of ok e
theorem dk_of {kvs : List (Key × V)} (ok : HOk P w H h) (e : H a = some (.dK kvs)) : kvs.length ≤ sizeLine ∧ (a == sysModules) = false ∧ ∃ vs, KV kvs vs ∧ h.DictOf (mixKind P w) a vs := dk_rd ok (.inl e)
/-- a tracked tuple of ints and texts is a key -/
theorem key_of {ks : List Key} (ok : HOk P w H h) (e : H a = some (.tup (ks.map kV))) : (tupleKind (mixKind P w)).is h ks a := by
  obtain ⟨_, its, r, ⟨o, h1, h2, n, h3⟩, _⟩ := (show ObjOk P w H h a (.tup (ks.map kV)) from ok a _ e)
  exact ⟨o, its.toArray, n, h1, h2, h3, by simpa using items_are r⟩
theorem dt_rd {kvs : List (List Key × V)} (ok : HOk P w H h) (e : Rd H a (.dT kvs)) : kvs.length ≤ sizeLine ∧ (a == sysModules) = false ∧
    ∃ xs, KT H kvs xs ∧ h.DictOfH (tupleKind (mixKind P w)) a xs := by
  obtain ⟨z, y, xs, r, o, es, ep, h1, h2, h3, h4, h5⟩ := (show ObjOk P w H h a (.dT kvs) from rd_of ok e)
  refine ⟨z, y, xs, r, o, es, ep, h1, h2, h3, h4, fun x hx => ?_, h5⟩
  have all : ∀ {l : List (List Key × V)} {m : List (List Key × Addr × Value)}, KT H l m → ∀ x ∈ m, (tupleKind (mixKind P w)).is h x.1 x.2.1 := by
    intro l m q
    induction q with
    | nil => intro x hx; exact nomatch hx
    | @cons p q ps qs hq t ih =>
      intro x hx
      rcases List.mem_cons.mp hx with e | hx
      · subst e
        exact key_of ok (by rw [← hq.1]; exact hq.2.1)
      · exact ih x hx
  exact all r x hx
theorem dt_of {kvs : List (List Key × V)} (ok : HOk P w H h) (e : H a = some (.dT kvs)) : kvs.length ≤ sizeLine ∧ (a == sysModules) = false ∧
    ∃ xs, KT H kvs xs ∧ h.DictOfH (tupleKind (mixKind P w)) a xs := dt_rd ok (.inl e)
end

/-- what the dict at a holds at the key y -/
def DGet (H : Hp) (a : Addr) (y : V) (r : Option V) : Prop :=
  (∃ kvs k, Rd H a (.dK kvs) ∧ y = kV k ∧ r = valV kvs k) ∨ ∃ kvs k b, Rd H a (.dT kvs) ∧ y = .ref b ∧ H b = some (.tup (k.map kV)) ∧ r = valV kvs k
/-- the heap behind a[y] = v -/
def DPut (H : Hp) (a : Addr) (y v : V) (H' : Hp) : Prop :=
  (∃ kvs k, H a = some (.dK kvs) ∧ y = kV k ∧ kvs.length < sizeLine ∧ H' = upd H a (.dK (putK kvs k v))) ∨
  ∃ kvs k b, H a = some (.dT kvs) ∧ y = .ref b ∧ H b = some (.tup (k.map kV)) ∧ kvs.length < sizeLine ∧ H' = upd H a (.dT (putK kvs k v))
theorem DGet.k {H : Hp} {a : Addr} {kvs : List (Key × V)} {k : Key} (e : H a = some (.dK kvs)) : DGet H a (kV k) (valV kvs k) := .inl ⟨kvs, k, .inl e, rfl, rfl⟩
theorem DGet.t {H : Hp} {a b : Addr} {kvs : List (List Key × V)} {k : List Key} (e : H a = some (.dT kvs)) (eb : H b = some (.tup (k.map kV))) : DGet H a (.ref b) (valV kvs k) := .inr ⟨kvs, k, b, .inl e, rfl, eb, rfl⟩
theorem DPut.k {H : Hp} {a : Addr} {kvs : List (Key × V)} {k : Key} {v : V} (e : H a = some (.dK kvs)) (hl : kvs.length < sizeLine) : DPut H a (kV k) v (upd H a (.dK (putK kvs k v))) := .inl ⟨kvs, k, e, rfl, hl, rfl⟩
theorem DPut.t {H : Hp} {a b : Addr} {kvs : List (List Key × V)} {k : List Key} {v : V} (e : H a = some (.dT kvs)) (eb : H b = some (.tup (k.map kV))) (hl : kvs.length < sizeLine) :
    DPut H a (.ref b) v (upd H a (.dT (putK kvs k v))) := .inr ⟨kvs, k, b, e, rfl, eb, hl, rfl⟩


section
variable {X : Cx} {pins : List (Addr × Obj)} {σ : St} {H : Hp} {s : Shared} {a : Addr} {y v : V} {u r : Value} {o : Option V} {A : Around} {E : Value → Shared → Prop}

theorem Inv.big (I : Inv X pins σ H s) : sysModules < s.heap.objs.size := by
  have h : mainGlobals < s.heap.objs.size := (I.mod.glob.keeps I.bk).lt
  exact Nat.lt_trans (by decide) h

/-- d[y], there -/
theorem d_getItem {Q : Value → Shared → Prop} (hu : A.units + 1 < cLine) (I : Inv X pins σ H s) (g : DGet H a y (some v)) (ry : RelV y u) (h : ∀ w' s', Inv X pins σ H s' → RelV v w' → Q w' s') :
    wpAny (model X.prog X.w) A (getItem (.ref a) u) Q E s := by
  rcases g with ⟨kvs, k, e, ey, l⟩ | ⟨kvs, k, b, e, ey, eb, l⟩
  · subst ey
    obtain ⟨z, hd, vs, rel, dd⟩ := dk_rd I.hok e
    obtain ⟨w', hw, rw'⟩ := RelO.some_of (v := v) (o := valueAt vs k) (by rw [l]; exact rel.val k)
    exact wpAny_getItem_of (kV_is ry) dd.mapOf hw (h w' _ (I.tok _) rw')
  · subst ey
    cases (show u = Value.ref b from ry)
    obtain ⟨z, hd, xs, rel, dd⟩ := dt_rd I.hok e
    obtain ⟨w', hw, rw'⟩ := RelO.some_of (v := v) (o := (atKey xs k).map (·.2)) (by rw [l]; exact rel.val k)
    obtain ⟨p, hp, hp2⟩ := Option.map_eq_some_iff.mp hw
    refine wpAny_getItem_heap (tupleKind_room_in1 hu) (key_of I.hok eb) dd hp ?_
    rw [hp2]
    exact h w' _ (I.tok _) rw'
/-- y in d -/
theorem d_in {Q : Value → Shared → Prop} (hu : A.units + 1 < cLine) (I : Inv X pins σ H s) (g : DGet H a y o) (ry : RelV y u) (h : ∀ s', Inv X pins σ H s' → Q (.bool o.isSome) s') :
    wpAny (model X.prog X.w) A (compareOp .In u (.ref a)) Q E s := by
  rcases g with ⟨kvs, k, e, ey, l⟩ | ⟨kvs, k, b, e, ey, eb, l⟩
  · subst ey
    obtain ⟨z, hd, vs, rel, dd⟩ := dk_rd I.hok e
    refine wpAny_in_of (kV_is ry) hd dd.mapOf ?_
    rw [← (rel.val k).isSome_eq, ← l]
    exact h _ (I.tok _)
  · subst ey
    cases (show u = Value.ref b from ry)
    obtain ⟨z, hd, xs, rel, dd⟩ := dt_rd I.hok e
    refine wpAny_in_heap (tupleKind_room_in1 hu) (key_of I.hok eb) hd dd ?_
    have q := (rel.val k).isSome_eq
    rw [Option.isSome_map] at q
    rw [← q, ← l]
    exact h _ (I.tok _)
/-- a dict's object is replaced -/
theorem d_write {h' : Heap} {t' : Nat} {ob : HO} (I : Inv X pins σ H s) (mu : Mut (H a)) (hs : Heap.SameBut a s.heap h') (he : ∃ q, h'.get? a = some q) (new : ObjOk X.prog X.w (upd H a ob) h' a ob) :
    Inv X pins σ (upd H a ob) { s with heap := h', toks := t' } :=
  I.write (x := a) (e := a) mu (.inl rfl) (fun b q hb z => (hs.2 b hb).trans z) he new
theorem dk_new {P : Program} {w : World} {H' : Hp} {h' : Heap} {kvs : List (Key × V)} {vs : List (Key × Value)} (z : kvs.length ≤ sizeLine) (hd : (a == sysModules) = false) (rel : KV kvs vs) (dd : h'.DictOf (mixKind P w) a vs) :
    ObjOk P w H' h' a (.dK kvs) := ⟨z, hd, vs, rel, dd⟩
/-- d[y] = v -/
theorem d_setItem {H' : Hp} {Q : Unit → Shared → Prop} (hu : A.units + 1 < cLine) (I : Inv X pins σ H s) (g : DPut H a y v H') (ry : RelV y u) (rv : RelV v r) (h : ∀ s', Inv X pins σ H' s' → Q () s') :
    wpAny (model X.prog X.w) A (setItem (.ref a) u r) Q E s := by
  rcases g with ⟨kvs, k, e, ey, l, eH⟩ | ⟨kvs, k, b, e, ey, eb, l, eH⟩
  · subst ey eH
    obtain ⟨z, hd, vs, rel, dd⟩ := dk_of I.hok e
    have hz : vs.length ≤ sizeLine := by rw [← rel.length]; exact z
    have hl : (putK kvs k v).length ≤ sizeLine := by have := length_putK kvs k v; omega
    refine wpAny_setItem_pairs (hsz := hz) (kV_is ry) dd fun h' dd' hs => h _ ?_
    have he : ∃ q, h'.get? a = some q := let ⟨q, _, _, hq, _⟩ := dd'; ⟨q, hq⟩
    exact d_write I (by rw [e]; exact True.intro) hs he (dk_new hl hd (rel.put k rv) dd')
  · subst ey eH
    cases (show u = Value.ref b from ry)
    obtain ⟨z, hd, xs, rel, dd⟩ := dt_of I.hok e
    have hz : xs.length ≤ sizeLine := by rw [← Paired.length rel]; exact z
    have hl : (putK kvs k v).length ≤ sizeLine := by have := length_putK kvs k v; omega
    refine wpAny_setItem_heap (hsz := hz) (tupleKind_room_in1 hu) (key_of I.hok eb) dd fun h' dd' hs => h _ ?_
    obtain ⟨q, es, ep, hq, h2, h3, h4, _, h5⟩ := dd'
    refine d_write I (by rw [e]; exact True.intro) hs ⟨q, hq⟩ ⟨hl, hd, _, (rel.put k eb rv).keeps fun c ys ec => ?_, q, es, ep, hq, h2, h3, h4, h5⟩
    rw [upd_ne (ne_of ec e (fun z => nomatch z))]
    exact ec
end

section
variable {X : Cx} {pins : List (Addr × Obj)} {σ : St} {H : Hp} {s : Shared} {a : Addr} {kvs : List (Key × V)} {k : Key} {u : Value} {A : Around} {E : Value → Shared → Prop}
end


/-! ### readings and rules -/
/-- the element of a subscription, not a slice -/
def NoSl (i : Expr) : Prop := ∀ ov iv, subscripted i false ov iv = operate [ov, iv] (getItem ov iv)
theorem subD_of {prog : Program} {w : World} {A : Around} {E : Value → Shared → Prop} {s : Shared} {env : Env} {value slice : Expr} {pos : Pos} {T id : String} {Q : Value → Shared → Prop}
    (hl : typeLookup (.type T) "__getitem__" = pure (some (.builtin id))) (hs : NoSl slice)
    (h : wpAny (model prog w) A (eval value env) (fun o s₁ => wpAny (model prog w) A (eval slice env) (fun i s₂ => s₂.TypeIs o T ∧ wpAny (model prog w) A (getItem o i) Q E s₂) E s₁) E s) :
    wpAny (model prog w) A (eval (.Subscript value slice pos) env) Q E s := by
  refine Subscript_ (wpAny_mono h (fun o s₁ h₁ => wpAny_mono h₁ (fun i s₂ h₂ => ?_) fun _ _ x => x) fun _ _ x => x)
  obtain ⟨hT, h₂⟩ := h₂
  unfold subscriptTail
  refine wpAny_bind ?_
  rw [getitemInPython_of_ne hT.not_modules]
  refine wpAny_bind (wpAny_specialOf hT hl ?_)
  have fin : wpAny (model prog w) A (subscripted slice false o i) (fun r s₃ => wpAny (model prog w) A (letTemporaryGo value o r >>= fun _ => pure r) Q E s₃) E s₂ := by
    rw [hs o i]
    exact wpAny_operating (wpAny_mono h₂ (fun r s₃ h₃ => wpAny_bind (wpAny_letTemporaryGo (wpAny_pure h₃))) fun _ _ x => x)
  first
    | exact wpAny_pure (wpAny_bind fin)
    | exact wpAny_bind (wpAny_pure (wpAny_bind fin))
    | exact wpAny_bind fin

theorem dict_typeIs {X : Cx} {pins : List (Addr × Obj)} {σ : St} {H : Hp} {s : Shared} {a : Addr} {y : V} {o : Option V} (I : Inv X pins σ H s) (g : DGet H a y o) : s.TypeIs (.ref a) "dict" := by
  rcases g with ⟨kvs, k, e, _, _⟩ | ⟨kvs, k, b, e, _, _, _⟩
  · obtain ⟨_, _, vs, _, dd⟩ := dk_rd I.hok e
    exact dd.typeIs
  · obtain ⟨_, _, xs, _, dd⟩ := dt_rd I.hok e
    exact dd.typeIs

/-- d[y] -/
def tDGet (td ty : TE) : TE := fun σ H Q => td σ H fun x H1 => ty σ H1 fun y H2 => ∃ a v, x = .ref a ∧ DGet H2 a y (some v) ∧ Q v H2
/-- y in d, y not in d -/
def tDIn (ty td : TE) : TE := fun σ H Q => ty σ H fun y H1 => td σ H1 fun x H2 => ∃ a o, x = .ref a ∧ DGet H2 a y o ∧ Q (.bl o.isSome) H2
/-- d[y] = v -/
def sDPut (td ty tv : TE) : TS := fun D σ H => tv σ H fun v H1 => td σ H1 fun x H2 => ty σ H2 fun y H3 => ∃ a H4, x = .ref a ∧ DPut H3 a y v H4 ∧ D.nx σ H4

section
variable {X : Cx} {o i e value : Expr} {pos pos' tpos : Pos} {td ty tv : TE}
theorem pe_dget (hu : X.A.units + 1 < cLine) (ho : PE X o td) (hi : PE X i ty) (hs : NoSl i) : PE X (.Subscript o i pos) (tDGet td ty) := by
  intro pins s σ H Q I h
  refine subD_of PySem.F.slot_dict_getitem.lookup hs (thn (ho pins s σ H _ I h) fun u s1 ⟨x, H1, I1, rx, q1⟩ => thn (hi pins s1 σ H1 _ I1 q1) fun iv s2 ⟨y, H2, I2, ry, a, v, ex, g, q2⟩ => ?_)
  subst ex
  obtain rfl : u = Value.ref a := rx
  exact ⟨dict_typeIs I2 g, d_getItem hu I2 g ry fun w' s3 I3 rw' => ⟨v, H2, I3, rw', q2⟩⟩
theorem pc_din (hu : X.A.units + 1 < cLine) (hi : PE X i ty) (ho : PE X o td) : PC X .In i o (tDIn ty td) := by
  intro pins s σ H Q I h
  refine thn (hi pins s σ H _ I h) fun iv s1 ⟨y, H1, I1, ry, q1⟩ => thn (ho pins s1 σ H1 _ I1 q1) fun u s2 ⟨x, H2, I2, rx, a, ov, ex, g, q2⟩ => ?_
  subst ex
  obtain rfl : u = Value.ref a := rx
  exact d_in hu I2 g ry fun s3 I3 => ⟨.bl ov.isSome, H2, I3, rfl, q2⟩
theorem ps_dput (hu : X.A.units + 1 < cLine) (ho : PE X o td) (hi : PE X i ty) (hv : PE X value tv) (hs : swapsWith value (some (.Subscript o i pos')) pos.line X.env = pure false) :
    PS X (.Assign [.Subscript o i pos'] value pos) (sDPut td ty tv) := by
  intro pins s σ H D I h
  refine wpAny_Assign_Subscript (thn (hv pins s σ H _ I h) fun r s1 ⟨v, H1, I1, rv, q1⟩ => thn (ho pins s1 σ H1 _ I1 q1) fun u s2 ⟨x, H2, I2, rx, q2⟩ => thn (hi pins s2 σ H2 _ I2 q2) fun iv s3 ⟨y, H3, I3, ry, a, H4, ex, g, q3⟩ => ?_) hs
  subst ex
  obtain rfl : u = Value.ref a := rx
  exact d_setItem hu I3 g ry rv fun s4 I4 => ⟨σ, H4, I4, q3⟩
end


/-! ### displays -/
theorem dk_empty {P : Program} {w : World} {H : Hp} (h : Heap) (hb : sysModules < h.objs.size) : ObjOk P w H (h.push { cls := .type "dict", data := .dict #[] }) h.objs.size (.dK []) :=
  ⟨Nat.zero_le _, beq_eq_false_iff_ne.mpr (Ne.symm (Nat.ne_of_lt hb)), [], .nil, Heap.DictOf.new h⟩
/-- {}, to be a dict of the kind that is wanted -/
def tDNewK : TE := fun _ H Q => ∀ p, H p = none → Q (.ref p) (upd H p (.dK []))
section
variable {X : Cx} {pos : Pos}
theorem pe_dnewK : PE X (.Dict [] [] pos) tDNewK := fun pins s σ H Q I h =>
  wpAny_Dict_empty ⟨.ref s.heap.objs.size, _, I.laid (a := s.heap.objs.size) (o := .dK []) (t' := s.toks) (fun _ _ q => Heap.get?_push_of_some _ q) (Nat.le_refl _) (dk_empty s.heap I.big), rfl, h _ (I.hok.fresh (Nat.le_refl _))⟩
end

/-- the pairs of a display, from the left -/
def tPairs : List (TE × TE) → St → Hp → (List (V × V) → Hp → Prop) → Prop
  | [], _, H, Q => Q [] H
  | (tk, tv) :: r, σ, H, Q => tk σ H fun x H1 => tv σ H1 fun y H2 => tPairs r σ H2 fun ps H3 => Q ((x, y) :: ps) H3
abbrev VV : List (V × V) → List (Value × Value) → Prop := Paired fun p q => RelV p.1 q.1 ∧ RelV p.2 q.2
def PPs (X : Cx) (pos : Pos) (keys : List (Option Expr)) (values : List Expr) (trs : List (TE × TE)) : Prop :=
  ∀ (pins : List (Addr × Obj)) (s : Shared) (σ : St) (H : Hp) (Q : List (V × V) → Hp → Prop), Inv X pins σ H s → tPairs trs σ H Q →
    wpAny (model X.prog X.w) X.A (evalPairs (pairTrees keys values X.env pos)) (fun vs s' => ∃ ps H', Inv X pins σ H' s' ∧ VV ps vs ∧ Q ps H') X.xe s
theorem pps_nil {X : Cx} {pos : Pos} : PPs X pos [] [] [] := fun pins s σ H Q I h => pairTrees_nil_walk ⟨[], H, I, .nil, h⟩
theorem pps_cons {X : Cx} {pos : Pos} {k v : Expr} {ks : List (Option Expr)} {vs : List Expr} {tk tv : TE} {trs : List (TE × TE)} (hk : PE X k tk) (hv : PE X v tv) (hr : PPs X pos ks vs trs) :
    PPs X pos (some k :: ks) (v :: vs) ((tk, tv) :: trs) := fun pins s σ H Q I h =>
  pairTrees_cons_walk (thn (hk pins s σ H _ I h) fun u s1 ⟨x, H1, I1, rx, q1⟩ => thn (hv pins s1 σ H1 _ I1 q1) fun w2 s2 ⟨y, H2, I2, ry, q2⟩ =>
    thn (hr pins s2 σ H2 _ I2 q2) fun ws s3 ⟨ps, H3, I3, rel, q3⟩ => ⟨(x, y) :: ps, H3, I3, .cons ⟨rx, ry⟩ rel, q3⟩)

def mergeK (kvs more : List (Key × V)) : List (Key × V) := more.foldl (fun acc kv => putK acc kv.1 kv.2) kvs
theorem KV.merge : ∀ {more : List (Key × V)} {rs : List (Key × Value)} {kvs : List (Key × V)} {vs : List (Key × Value)}, KV more rs → KV kvs vs → KV (mergeK kvs more) (merged vs rs) := by
  intro more rs kvs vs r
  unfold KV at r
  induction r generalizing kvs vs with
  | nil => intro q; exact q
  | @cons p q ps qs h t ih =>
    intro r0
    have e : KV (putK kvs p.1 p.2) (stored vs q.1 q.2) := by
      have := r0.put p.1 h.2
      rw [← h.1]; exact this
    exact ih e
theorem length_mergeK : ∀ (more kvs : List (Key × V)), (mergeK kvs more).length ≤ kvs.length + more.length
  | [], kvs => by show kvs.length ≤ kvs.length + 0; omega
  | p :: r, kvs => by
    have h1 := length_mergeK r (putK kvs p.1 p.2)
    have h2 := length_putK kvs p.1 p.2
    show (mergeK (putK kvs p.1 p.2) r).length ≤ _
    rw [List.length_cons]; omega
theorem carries_of {P : Program} {w : World} : ∀ {kvs : List (Key × V)} {ws : List (Value × Value)}, VV (kvs.map fun kv => (kV kv.1, kv.2)) ws → ∃ rs, Carries (mixKind P w) ws rs ∧ KV kvs rs
  | [], _, r => by rw [List.map_nil] at r; cases r; exact ⟨[], True.intro, .nil⟩
  | p :: kvs, _, r => by
    rw [List.map_cons] at r
    cases r with
    | @cons a b as bs h t =>
      obtain ⟨rs, c, q⟩ := carries_of (P := P) (w := w) t
      obtain ⟨b1, b2⟩ := b
      exact ⟨(p.1, b2) :: rs, ⟨kV_is h.1, rfl, c⟩, .cons ⟨rfl, h.2⟩ q⟩
/-- {k: v, ..} with keys ints and texts; the new dict stands empty while the pairs are made -/
def tDisp (trs : List (TE × TE)) : TE := fun σ H Q => ∀ p, H p = none → tPairs trs σ (upd H p (.dK [])) fun ps H2 => H2 p = some (.dK []) ∧ ∃ kvs : List (Key × V), ps = kvs.map (fun kv => (kV kv.1, kv.2)) ∧ kvs.length ≤ 15 ∧ Q (.ref p) (upd H2 p (.dK (mergeK [] kvs)))
theorem pe_disp {X : Cx} {pos : Pos} {keys : List (Option Expr)} {values : List Expr} {trs : List (TE × TE)} (h : PPs X pos keys values trs) (hall : keys.all (·.isSome) = true) (hl : keys.length = values.length) (h0 : keys ≠ [])
    (h15 : keys.length ≤ 15) : PE X (.Dict keys values pos) (tDisp trs) := by
  intro pins s σ H Q I q
  have hn := I.hok.fresh (Nat.le_refl s.heap.objs.size)
  have I1 := I.laid (a := s.heap.objs.size) (o := .dK []) (h' := s.heap.push { cls := .type "dict", data := .dict #[] }) (t' := s.toks) (fun _ _ q => Heap.get?_push_of_some _ q) (Nat.le_refl _) (dk_empty s.heap I.big)
  refine wpAny_Dict_walk (knd := mixKind X.prog X.w) hall hl h0 h15 (thn (h pins _ σ _ _ I1 (q _ hn)) fun ws s2 ⟨ps, H2, I2, rel, e, kvs, ep, lk, q2⟩ => ?_)
  subst ep
  obtain ⟨rs, c, rk⟩ := carries_of (P := X.prog) (w := X.w) rel
  obtain ⟨z, hd, vs0, r0, dd⟩ := dk_of I2.hok e
  cases r0
  refine ⟨rs, c, dd, fun h' dd' hs => ⟨.ref s.heap.objs.size, _, ?_, rfl, q2⟩⟩
  have hz : (mergeK [] kvs).length ≤ sizeLine := by
    have h1 := length_mergeK kvs []
    rw [List.length_nil] at h1
    rw [sizeLine_eq]; omega
  have he : ∃ q, h'.get? s.heap.objs.size = some q := let ⟨q, _, _, hq, _⟩ := dd'; ⟨q, hq⟩
  exact d_write I2 (by rw [e]; exact True.intro) hs he (dk_new hz hd (rk.merge .nil) dd')


/-! ### methods -/
/-- a method call o.m(e) of a built-in, with one argument: what must be seen of the text -/
structure M1 (X : Cx) (o : Expr) (m : Str) (apos : Pos) (e : Expr) (cpos : Pos) : Prop where
  base : attributeBase o m X.env (eval o X.env) = eval o X.env
  few : ((backTo cpos (starEach [e] X.env)).all (fun x => !x.1) && (backToKw cpos (keywordEach [] X.env)).all (fun x => x.1.isSome)
    && decide (([e] : List Expr).length + ([] : List Keyword).length + (if ([] : List Keyword).isEmpty then 0 else 1) < 30)) = true
  line : (apos.endLine == cpos.line) = true
  trees : backTo cpos (starEach [e] X.env) = [(false, eval e X.env)]
structure M2 (X : Cx) (o : Expr) (m : Str) (apos : Pos) (e f : Expr) (cpos : Pos) : Prop where
  base : attributeBase o m X.env (eval o X.env) = eval o X.env
  few : ((backTo cpos (starEach [e, f] X.env)).all (fun x => !x.1) && (backToKw cpos (keywordEach [] X.env)).all (fun x => x.1.isSome)
    && decide (([e, f] : List Expr).length + ([] : List Keyword).length + (if ([] : List Keyword).isEmpty then 0 else 1) < 30)) = true
  line : (apos.endLine == cpos.line) = true
  trees : backTo cpos (starEach [e, f] X.env) = [(false, eval e X.env), (false, eval f X.env)]

/-- a is a dict, whatever its keys -/
def IsD (H : Hp) (a : Addr) : Prop := (∃ kvs, Rd H a (.dK kvs)) ∨ ∃ kvs, Rd H a (.dT kvs)
theorem isD_at {X : Cx} {pins : List (Addr × Obj)} {σ : St} {H : Hp} {s : Shared} {a : Addr} (I : Inv X pins σ H s) (d : IsD H a) :
    s.TypeIs (.ref a) "dict" ∧ (∀ b, Value.ref a = .ref b → ∃ ob, s.heap.get? b = some ob ∧ ob.dict = none) ∧ (a == sysModules) = false := by
  rcases d with ⟨kvs, e⟩ | ⟨kvs, e⟩
  · obtain ⟨_, hd, vs, _, dd⟩ := dk_rd I.hok e
    refine ⟨dd.typeIs, fun b q => ?_, hd⟩
    cases q
    obtain ⟨ob, _, _, h1, h2, _⟩ := dd
    exact ⟨ob, h1, h2.2.1⟩
  · obtain ⟨_, hd, xs, _, dd⟩ := dt_rd I.hok e
    refine ⟨dd.typeIs, fun b q => ?_, hd⟩
    cases q
    obtain ⟨ob, _, _, h1, h2, _⟩ := dd
    exact ⟨ob, h1, h2.2.1⟩

section
variable {X : Cx} {pins : List (Addr × Obj)} {σ : St} {H : Hp} {s : Shared} {a : Addr} {y d : V} {u r : Value} {o : Option V} {A : Around} {E : Value → Shared → Prop}
/-- d.get(y, x) -/
theorem d_get2 {Q : Value → Shared → Prop} (hu : A.units + 1 < cLine) (I : Inv X pins σ H s) (g : DGet H a y o) (ry : RelV y u) (rd : RelV d r) (h : ∀ w' s', Inv X pins σ H s' → RelV (o.getD d) w' → Q w' s') :
    wpAny (model X.prog X.w) A (call (.builtin "dict.get") [.ref a, u, r]) Q E s := by
  rcases g with ⟨kvs, k, e, ey, l⟩ | ⟨kvs, k, b, e, ey, eb, l⟩
  · subst ey
    obtain ⟨z, hd, vs, rel, dd⟩ := dk_rd I.hok e
    refine call_meetsIn PySem.F.slot_dict_get dd.typeIs PySem.F.entry_dict_get (PySem.F.args_dict_get_3 _ _ _) (meets_dict_get_default (mixKind X.prog X.w) a (kV_is ry) hd r) ⟨_, dd.mapOf, h _ _ (I.tok _) ?_⟩
    rw [l]
    exact (rel.val k).getD rd
  · subst ey
    cases (show u = Value.ref b from ry)
    obtain ⟨z, hd, xs, rel, dd⟩ := dt_rd I.hok e
    refine call_meetsIn PySem.F.slot_dict_get dd.typeIs PySem.F.entry_dict_get (PySem.F.args_dict_get_3 _ _ _) (meetsH_dict_get_default (tupleKind (mixKind X.prog X.w)) a b hd r) ⟨tupleKind_room_in1 hu, k, xs, key_of I.hok eb, dd, h _ _ (I.tok _) ?_⟩
    rw [l]
    exact (rel.val k).getD rd
end

def tDGet2 (td ty tx : TE) : TE := fun σ H Q => td σ H fun x H1 => ∃ a, x = .ref a ∧ IsD H1 a ∧ ty σ H1 fun y H2 => tx σ H2 fun z H3 => ∃ o, DGet H3 a y o ∧ Q (o.getD z) H3
section
variable {X : Cx} {o e f : Expr} {apos cpos : Pos} {td ty tx : TE}
theorem pe_dget2 (hu : X.A.units + 1 < cLine) (ho : PE X o td) (he : PE X e ty) (hf : PE X f tx) (m : M2 X o "get" apos e f cpos) : PE X (.Call (.Attribute o "get" apos) [e, f] [] cpos) (tDGet2 td ty tx) := by
  intro pins s σ H Q I h
  refine wpAny_Call_method m.base m.few m.line PySem.F.plainAttrs_dict PySem.F.slot_dict_get PySem.F.type_dict_get (thn (ho pins s σ H _ I h) fun u s1 ⟨x, H1, I1, rx, a, ex, d, q1⟩ => ?_)
  subst ex
  obtain rfl : u = Value.ref a := rx
  obtain ⟨t1, t2, _⟩ := isD_at I1 d
  refine ⟨t1, t2, ?_⟩
  rw [m.trees]
  refine Calls.callWith_builtin rfl (Calls.evalArgs_plain (Calls.spliced_cons (thn (he pins s1 σ H1 _ I1 q1) fun iv s2 ⟨y, H2, I2, ry, q2⟩ =>
    Calls.spliced_cons (thn (hf pins s2 σ H2 _ I2 q2) fun fv s3 ⟨z, H3, I3, rz, ov, g, q3⟩ => Calls.spliced_nil ?_))))
  exact d_get2 hu I3 g ry rz fun w' s4 I4 rw' => ⟨_, H3, I4, rw', q3⟩
end

/-! ### dict(d): a copy -/
section
variable {X : Cx} {pins : List (Addr × Obj)} {σ : St} {H : Hp} {s : Shared} {a : Addr} {kvs : List (Key × V)} {A : Around} {E : Value → Shared → Prop}
end


section
variable {X : Cx} {pins : List (Addr × Obj)} {σ : St} {H : Hp} {s : Shared} {a : Addr} {y : V} {u : Value} {A : Around} {E : Value → Shared → Prop}
end
end L2

namespace L2
open PySem PySem.Spec PyProof.Rows


section
variable {prog : Program} {w : World} {A : Around} {E : Value → Shared → Prop}


end

section
variable {X : Cx}
end
end L2

namespace L2
open PySem PySem.Spec PyProof.Rows


section
variable {X : Cx} {pins : List (Addr × Obj)} {σ : St} {H : Hp} {s : Shared} {h' : Heap}
/-- several records of ours have turned -/
theorem Inv.turnedL {t' : Nat} {ch : List Addr} (I : Inv X pins σ H s) (k : ∀ b o, b ∉ ch → s.heap.get? b = some o → h'.get? b = some o) (hf : ∀ b ∈ ch, FpOk X pins H b) : Inv X pins σ H { s with heap := h', toks := t' } := by
  have nit : ∀ b u, H b = some u → b ∉ ch := fun b u e z => by
    have q := (hf b z).1
    rw [q] at e; cases e
  refine I.step (g' := s.gens) (d' := s.drawn) (ch := ch) (fun b hb => ⟨(hf b hb).2.2.2.1, (hf b hb).2.1, (hf b hb).2.2.2.2.1, (hf b hb).2.2.2.2.2⟩) (fun b o _ _ hc e _ => k b o hc e) (fun b o _ _ hc e _ => ⟨o.slots, k b o hc e⟩)
    (fun _ _ _ _ n => n) (fun b o hc e => ⟨o, k b o hc e⟩) (fun _ _ e => e) (fun _ _ _ e => e) (fun b ps e => ⟨#[], by rw [e]; simp⟩) (fun m hm => ?_) (fun b u e => ?_) I.bare
  · obtain ⟨o, es, ep, ho, r⟩ := hm
    exact ⟨o, es, ep, k _ o (fun z => (hf _ z).2.1 rfl) ho, r⟩
  · refine (I.hok b u e).stay (fun c v hc q => k c v ?_ q) (fun _ q => q) fun _ _ q => q
    rcases hc with z | z
    · rw [z]; exact nit b u e
    · exact nit c _ z
/-- .. and one new object is laid -/
theorem Inv.turnedNew {t' : Nat} {ch : List Addr} {T : Addr} {ob : HO} (I : Inv X pins σ H s) (k : ∀ b o, b ∉ ch → s.heap.get? b = some o → h'.get? b = some o) (hf : ∀ b ∈ ch, FpOk X pins H b) (hT : s.heap.objs.size ≤ T)
    (new : ObjOk X.prog X.w (upd H T ob) h' T ob) : Inv X pins σ (upd H T ob) { s with heap := h', toks := t' } := by
  have hn : H T = none := I.hok.fresh hT
  have nit : ∀ b u, H b = some u → b ∉ ch := fun b u e z => by
    have q := (hf b z).1
    rw [q] at e; cases e
  refine I.step (g' := s.gens) (d' := s.drawn) (ch := ch) (fun b hb => ⟨(hf b hb).2.2.2.1, (hf b hb).2.1, (hf b hb).2.2.2.2.1, (hf b hb).2.2.2.2.2⟩) (fun b o _ _ hc e _ => k b o hc e) (fun b o _ _ hc e _ => ⟨o.slots, k b o hc e⟩)
    (fun b o _ e n => ?_) (fun b o hc e => ⟨o, k b o hc e⟩) (fun b xs e => ?_) (fun b o u e => ?_) (fun b ps e => ⟨#[], ?_⟩) (fun m hm => ?_) (fun b u e => ?_) I.bare
  · rw [upd_ne (Nat.ne_of_lt (Nat.lt_of_lt_of_le (Heap.lt_size e) hT))]; exact n
  · rw [upd_ne (ne_of_none e hn)]; exact e
  · rw [upd_ne (ne_of_none e hn)]; exact e
  · rw [upd_ne (ne_of_none e hn), e]; simp
  · obtain ⟨o, es, ep, ho, r⟩ := hm
    exact ⟨o, es, ep, k _ o (fun z => (hf _ z).2.1 rfl) ho, r⟩
  · by_cases hb : b = T
    · subst hb
      rw [upd_same] at e
      cases e
      exact new
    · rw [upd_ne hb] at e
      refine (I.hok b u e).stay (fun c v hc q => k c v ?_ q) (fun c q => by rw [upd_ne (ne_of_none q hn)]; exact q) fun c xs q => by rw [upd_ne (ne_of_none q hn)]; exact q
      rcases hc with z | z
      · rw [z]; exact nit b u e
      · exact nit c _ z

/-! ### locking a thing while a statement runs -/
theorem Inv.lock {d : Addr} {u : HO} (I : Inv X pins σ H s) (h : H d = some u) (mu : Mut (some u)) : ∃ od, Inv X pins σ (upd H d (.frz od u)) s := by
  have x := I.hok d u h
  have ex : ∃ od, s.heap.get? d = some od := by
    cases u with
    | lst xs => obtain ⟨_, _, _, _, e⟩ := x; exact ⟨_, e⟩
    | dK kvs => obtain ⟨_, _, _, _, o, _, _, e, _⟩ := x; exact ⟨o, e⟩
    | dT kvs => obtain ⟨_, _, _, _, o, _, _, e, _⟩ := x; exact ⟨o, e⟩
    | set S n => obtain ⟨o, _, _, _, e, _⟩ := x; exact ⟨o, e⟩
    | ins C dx fs => obtain ⟨_, _, _, e, _⟩ := x; exact ⟨_, e⟩
    | ext φ => obtain ⟨_, ⟨_, e⟩, _⟩ := x; exact ⟨_, e⟩
    | _ => exact False.elim mu
  obtain ⟨od, e⟩ := ex
  have new : ObjOk X.prog X.w (upd H d (.frz od u)) s.heap d (.frz od u) := by
    refine ⟨e, x.stay (fun b v _ q => q) (fun b q => ?_) fun b xs q => ?_⟩
    · rw [upd_ne (fun z => by rw [z, h] at q; cases q; exact mu)]; exact q
    · rw [upd_ne (fun z => by rw [z, h] at q; cases q; exact mu)]; exact q
  exact ⟨od, I.write (x := d) (e := d) (t' := s.toks) (h' := s.heap) (by rw [h]; exact mu) (.inl rfl) (fun b v _ q => q) ⟨od, e⟩ new⟩
theorem Inv.nofrz {d : Addr} {u : HO} (I : Inv X pins σ H s) (h : H d = some u) (mu : Mut (some u)) : ∀ o' u', X.H_0 d ≠ some (.frz o' u') := fun o' u' e => by
  have q := I.base.frzs d o' u' e
  rw [h] at q
  cases q
  exact mu
theorem Inv.unlock {d : Addr} {od : Obj} {u : HO} (I : Inv X pins σ H s) (h : H d = some (.frz od u)) (hn : ∀ o' u', X.H_0 d ≠ some (.frz o' u')) : Inv X pins σ (upd H d u) s := by
  have neH : ∀ b o, H b = some o → (∀ o' u', o ≠ .frz o' u') → b ≠ d := fun b o e hne z => by
    rw [z, h] at e
    cases e
    exact hne _ _ rfl
  have neN : ∀ b, H b = none → b ≠ d := fun b e z => by rw [z, h] at e; cases e
  refine ⟨I.ok, I.os, I.bare, ⟨I.base.keep, I.base.slot, fun b o e n hx => ?_, I.base.there, fun b xs e => ?_, fun b o x e => ?_, fun b ps e => ?_⟩, I.loc, I.cell, ?_, fun x c e => ?_, fun p hp => ?_, fun b o e => ?_, I.len⟩
  · rw [upd_ne (neN b (I.base.free b o e n hx))]; exact I.base.free b o e n hx
  · have q := I.base.tups b xs e
    rw [upd_ne (neH b _ q (fun _ _ z => nomatch z))]; exact q
  · have q := I.base.frzs b o x e
    rw [upd_ne (fun z => by rw [z] at e; exact hn _ _ e)]; exact q
  · obtain ⟨m, q⟩ := I.base.tbls b ps e
    exact ⟨m, by rw [upd_ne (neH b _ q (fun _ _ z => nomatch z))]; exact q⟩
  · rw [upd_ne (neN _ I.free)]; exact I.free
  · rw [upd_ne (neN c (I.freeC x c e))]; exact I.freeC x c e
  · obtain ⟨e, n, r⟩ := I.pin p hp
    exact ⟨e, by rw [upd_ne (neN _ n)]; exact n, r⟩
  · by_cases hb : b = d
    · rw [hb, upd_same] at e
      cases e
      rw [hb]
      obtain ⟨_, x⟩ := I.hok d _ h
      exact x.stay (fun c v _ q => q) (fun c q => by rw [upd_ne (neH c _ q (fun _ _ z => nomatch z))]; exact q) fun c xs q => by rw [upd_ne (neH c _ q (fun _ _ z => nomatch z))]; exact q
    · rw [upd_ne hb] at e
      exact (I.hok b o e).stay (fun c v _ q => q) (fun c q => by rw [upd_ne (neH c _ q (fun _ _ z => nomatch z))]; exact q) fun c xs q => by rw [upd_ne (neH c _ q (fun _ _ z => nomatch z))]; exact q
end
/-- the statement runs while the thing at d is locked (read, not written); d and what stands there are the reading's choice -/
def tLock (t : TS) : TS := fun D σ H => ∃ d u, H d = some u ∧ Mut (some u) ∧ ∀ od, t ⟨fun σ' H' => H' d = some (.frz od u) ∧ D.nx σ' (upd H' d u), fun v H' => H' d = some (.frz od u) ∧ D.rt v (upd H' d u), fun σ' H' => H' d = some (.frz od u) ∧ D.bk σ' (upd H' d u), fun σ' H' => H' d = some (.frz od u) ∧ D.ct σ' (upd H' d u)⟩ σ (upd H d (.frz od u))
section
variable {X : Cx}
theorem ps_lock {st : Stmt} {t : TS} (h : PS X st t) : PS X st (tLock t) := by
  intro pins s σ H D I hw
  obtain ⟨d, u, hd, mu, hw⟩ := hw
  obtain ⟨od, I1⟩ := I.lock hd mu
  refine thn (h pins s σ _ _ I1 (hw od)) fun f s1 q => ?_
  cases f with
  | next => obtain ⟨σ', H', I2, e, q⟩ := q; exact ⟨σ', _, I2.unlock e (I.nofrz hd mu), q⟩
  | brk => obtain ⟨σ', H', I2, e, q⟩ := q; exact ⟨σ', _, I2.unlock e (I.nofrz hd mu), q⟩
  | cont => obtain ⟨σ', H', I2, e, q⟩ := q; exact ⟨σ', _, I2.unlock e (I.nofrz hd mu), q⟩
  | ret v => obtain ⟨x, σ', H', I2, r, e, q⟩ := q; exact ⟨x, σ', _, I2.unlock e (I.nofrz hd mu), r, q⟩

/-! ### one iterator just laid -/
theorem pi_one {tg : Expr} {pins : List (Addr × Obj)} {σ : St} {H : Hp} {s : Shared} {R : It → Hp → Prop} {J : It} {tn : Nat → Heap → Prop} {tk : Nat} (I : Inv X pins σ H s) (o : Obj)
    (T : Turn X.prog X.w X.K tg J [s.heap.objs.size] s.heap.objs.size tn) (st : tn 0 (s.heap.push o)) (q : R J H) : PIE X pins σ tg R (.ref s.heap.objs.size) { s with heap := s.heap.push o, toks := tk } := by
  refine ⟨s.heap.objs.size, [s.heap.objs.size], tn, J, H, rfl, I.kept fun b ob e => Heap.get?_push_of_some _ e, T, st, fun b hb => ?_, q⟩
  have e : b = s.heap.objs.size := by simpa using hb
  subst e
  exact I.fpOk (Nat.le_refl _) (I.hok.fresh (Nat.le_refl _))
end

/-! ### range with a step -/
/-- lo, lo + c, .. (n of them) -/
def Itc (lo c : Int) (n : Nat) : It := ⟨fun i _ => i < n, fun i H x H' => H' = H ∧ x = .int (lo + (i : Nat) * c), fun i _ => n ≤ i⟩
theorem turn_rangeC {P : Program} {w : World} {K : PySem.W.Frag} {tg : Expr} (it : Addr) (lo c : Int) (n : Nat) : Turn P w K tg (Itc lo c n) [it] it (fun i h => IsRangeIter h it (lo + (i : Nat) * c) ((n : Int) - (i : Nat)) c) where
  mem := by simp
  obj := fun i h st b hb => by
    have e : b = it := by simpa using hb
    subst e
    exact ⟨_, st, fun v z => nomatch z⟩
  keep := fun i h h' st k => k it (by simp) _ st
  item := by
    intro X hP hw hK hc i pins s σ H E I hf st hg
    subst hP hw hK
    obtain ⟨f0, f1, f2, f3, f4, f5⟩ := hf it (by simp)
    have W := Walks.range (prog := X.prog) (w := X.w) (I.ok.hd hc) it lo c n
    refine W.item i s _ _ hg st fun v h' tk hv st' kk => ?_
    obtain ⟨t, rfl⟩ := hv
    have I1 : Inv X pins σ H { s with heap := h', toks := tk } := I.turned (fun b o hb e => kk b o (by simpa using hb) e) f0 f1 f3 f4 f5
    exact ⟨_, rfl, go_of (s := { s with heap := h', toks := tk }) (n := "range_iterator") st' rfl rfl (by decide) ⟨.int (lo + (i : Nat) * c), H, I1, ⟨t, rfl⟩, ⟨rfl, rfl⟩, st', fun b hb => (hf b hb).1⟩⟩
  done := by
    intro X hP hw hK hc i pins s σ H E I hf st hg
    subst hP hw hK
    obtain ⟨f0, f1, f2, f3, f4, f5⟩ := hf it (by simp)
    exact wpAny_pyNext_range_end (I.ok.hd hc) st (by have : n ≤ i := hg; omega) fun h' eb => ⟨rfl, I.turned (t' := s.toks) (fun b o hb e => eb b o hb e) f0 f1 f3 f4 f5⟩
  self := fun A i s Q E st h => wpAny_pyIter_rangeiter st h
/-- range(i, j, c): small bounds, n items -/
def RgC (i j c : Int) (n : Nat) : Prop := c ≠ 0 ∧ c.natAbs < 1073741824 ∧ Builtin.Range.small i j c = true ∧ Builtin.Range.rangeSize i j c = n
theorem RgC.neg {i j : Int} (ha : -(2 ^ 62) ≤ i) (ha' : i < 2 ^ 62) (hb : -(2 ^ 62) ≤ j) (hb' : j < 2 ^ 62) : RgC i j (-1) (i - j).toNat :=
  ⟨by decide, by decide, PySem.W.small_down ha ha' hb hb', PySem.W.rangeSize_downNat i j⟩
def iRng3 (ta : TA) : TI := fun σ H R => ta σ H fun vs H1 => ∃ (i j c : Int) (n : Nat), vs = [.int i, .int j, .int c] ∧ RgC i j c n ∧ R (Itc i c n) H1
section
variable {X : Cx} {tg : Expr}
theorem pi_range3 {a b c : Expr} {ta : TA} {p pos : Pos} (hg : Gl X "range") (hm : X.mg "range" = none) (ha : PA X [a, b, c] ta)
    (hs : starEach [a, b, c] X.env = (false, eval a X.env) :: starEach [b, c] X.env := by rfl) (hpl : (backTo pos (starEach [b, c] X.env)).any (·.1) = false := by rfl) :
    PI X tg (.Call (.Name "range" p) [a, b, c] [] pos) (iRng3 ta) := by
  intro pins s σ H R I h
  refine Call_ (ld_blt I hg hm boot_range (PyProof.Rows.callWith_type1 (thn (ha pos pins s σ H _ I h) fun us s1 ⟨vs, H1, I1, r1, q1⟩ => ?_) hs hpl))
  obtain ⟨i, j, k, n, e, ⟨c0, c1, c2, c3⟩, q⟩ := q1
  subst e
  cases r1 with
  | cons r rr =>
    cases rr with
    | cons r' rr =>
      cases rr with
      | cons r'' rr =>
        cases rr
        obtain ⟨t, rfl⟩ := r
        obtain ⟨t', rfl⟩ := r'
        obtain ⟨t'', rfl⟩ := r''
        refine call_range_3 c0 ?_ (.inl (PyProof.noPylong_small c1))
        refine wpAny_pyIter_range (IsRange.new ..) c2 ?_
        have I2 : Inv X pins σ H1 { s1 with heap := s1.heap.push { cls := .type "range", data := .fields #[.int i t, .int j t', .int k t''] } } := I1.kept (t' := s1.toks) fun b o e => Heap.get?_push_of_some _ e
        refine pi_one (tk := s1.toks) I2 _ (turn_rangeC _ i k n) ?_ q
        have e1 : i + ((0 : Nat) : Int) * k = i := by simp
        have e2 : (n : Int) - ((0 : Nat) : Int) = Builtin.Range.rangeSize i j k := by rw [c3]; simp
        show IsRangeIter _ _ (i + ((0 : Nat) : Int) * k) ((n : Int) - ((0 : Nat) : Int)) k
        rw [e1, e2]
        exact Heap.get?_push_size _ rfl
end
/-- the turns of a step range, for the for loop -/
theorem for_rangeC {lo c : Int} {n : Nat} {g : TG} {tb : TS} {D : Ends} {σ : St} {H : Hp} (Pv : Nat → St → Hp → Prop) (h0 : Pv 0 σ H)
    (hs : ∀ i σ H, i < n → Pv i σ H → g (.int (lo + (i : Nat) * c)) σ H fun σ2 H2 => tb { D with nx := Pv (i + 1), ct := Pv (i + 1), bk := D.nx } σ2 H2) (hd : ∀ σ H, Pv n σ H → D.nx σ H) :
    ∃ W : Nat → Nat → St → Hp → Prop, (∃ m, W 0 m σ H) ∧ ∀ i m σ H, W i m σ H →
      ((Itc lo c n).stop i H ∧ D.nx σ H) ∨ ((Itc lo c n).go i H ∧ ∃ N : St → Hp → Prop, (∀ σ' H', N σ' H' → ∃ m', m' < m ∧ W (i + 1) m' σ' H') ∧ ∀ x H', (Itc lo c n).yld i H x H' → g x σ H' fun σ2 H2 => tb { D with nx := N, ct := N, bk := D.nx } σ2 H2) := by
  refine ⟨fun i m σ H => m = n - i ∧ i ≤ n ∧ Pv i σ H, ⟨n, by simp, Nat.zero_le _, h0⟩, ?_⟩
  rintro i m σ H ⟨rfl, hi, p⟩
  by_cases hlt : i < n
  · refine .inr ⟨hlt, Pv (i + 1), fun σ' H' p' => ⟨n - (i + 1), by omega, rfl, hlt, p'⟩, fun x H' y => ?_⟩
    obtain ⟨e, y⟩ := y
    subst e y
    exact hs i σ _ hlt p
  · have e : i = n := by omega
    subst e
    exact .inl ⟨Nat.le_refl _, hd σ H p⟩

/-! ### reversed(list) -/
section
variable {X : Cx} {tg : Expr}
end

/-! ### a str -/

/-! ### a dict's keys: any dict's entries -/
section
variable {prog : Program} {w : World} {A : Around} {E : Value → Shared → Prop} {s : Shared}
theorem iter_keys {d : Addr} {o : Obj} {es : Array DictEntry} {ep : Nat} {Q : Value → Shared → Prop} (hd : (d == sysModules) = false) (ho : s.heap.get? d = some o) (hc : o.ExactDict) (hdat : o.data = .dict es ep)
    (hQ : Q (.ref s.heap.objs.size) { s with heap := s.heap.push { cls := .type "dict_keyiterator", data := .fields #[.ref d, .int 0 0, .int es.size 0, .int ep 0] } }) :
    wpAny (model prog w) A (pyIter (.ref d)) Q E s := by
  have hT : s.TypeIs (.ref d) "dict" := ⟨o, ho, hc.1⟩
  refine wpAny_pyIter_slot hT F.slot_dict_iter (wpAny_call_entry F.slot_dict_iter hT F.entry_dict_iter ?_ (F.args_dict_iter_1 _))
  unfold Builtin.«dict.__iter__»
  refine wpAny_bind ?_
  unfold Builtin.Dict.dictSlotNone
  refine wpAny_bind (wpAny_notOrdered_dict hT ?_)
  show wpAny _ _ (pure (Value.ref d)) _ _ s
  refine wpAny_pure ?_
  show wpAny _ _ (Builtin.Dict.showsAll d >>= _) _ _ s
  unfold Builtin.Dict.showsAll
  rw [if_neg (by rw [hd]; exact Bool.false_ne_true)]
  refine wpAny_bind (wpAny_pure ?_)
  refine wpAny_bind (wpAny_dictEntries ho hdat ?_)
  refine wpAny_bind (wpAny_dictEpoch ho hdat ?_)
  refine wpAny_bind (wpAny_newObj_type (wpAny_pure ⟨_, rfl, "dict_keyiterator", _, ⟨_, Heap.get?_push_size _ rfl, rfl⟩, F.slot_dict_keyiterator_next.lookup, ?_⟩))
  simpa [rawInt] using hQ
theorem next_key_item {it d : Addr} {i n ep : Nat} {od : Obj} {es : Array DictEntry} {en : DictEntry} {Q : Option Value → Shared → Prop} (hit : s.heap.IsKeyIter it d i n ep) (hod : s.heap.get? d = some od) (hdd : od.data = .dict es ep)
    (hsz : es.size = n) (hx : es[i]? = some en) (hQ : ∀ h', h'.IsKeyIter it d (i + 1) n ep → Heap.SameBut it s.heap h' → Q (some en.key) { s with heap := h' }) : wpAny (model prog w) A (pyNext (.ref it)) Q E s := by
  obtain ⟨o, ho, hc, hd⟩ := id hit
  unfold pyNext
  refine wpAny_bind (wpAny_attempt (wpAny_callSpecial?_slot (name := Str.ofString "__next__") hit.typeIs F.slot_dict_keyiterator_next
    (wpAny_call_entry F.slot_dict_keyiterator_next hit.typeIs F.entry_dict_keyiterator_next ?_ (F.args_dict_keyiterator_next_1 _))))
  refine wpAny_bind (wpAny_pure ?_)
  refine wpAny_bind ?_
  refine wpAny_bind ?_
  first | refine wpAny_bind (wpAny_typeNameOfWhole_keyiter hit.typeIs (wpAny_pure ?_)) | refine wpAny_bind (wpAny_typeNameOf_keyiter hit.typeIs (wpAny_pure ?_))
  refine wpAny_bind (wpAny_fieldsOf ho hd ?_)
  have hown : Builtin.Dict_items.ownsTuple "dict_keyiterator" = false := by decide
  simp only [hown, Bool.false_eq_true, if_false]
  show wpAny _ _ (if (Value.ref d == Value.none) = true then _ else _) _ _ s
  rw [if_neg (show ¬ ((Value.ref d == Value.none) = true) from Bool.false_ne_true)]
  refine wpAny_bind (wpAny_pure ?_)
  refine wpAny_bind (wpAny_dictEntries hod hdd ?_)
  rw [if_neg (by rw [hsz]; simp)]
  refine wpAny_bind (wpAny_pure ?_)
  refine wpAny_bind (wpAny_dictEpoch hod hdd ?_)
  rw [if_neg (by simp)]
  refine wpAny_pure ?_
  obtain ⟨hlt', hen⟩ := Array.getElem?_eq_some_iff.mp hx
  simp only [show ¬ ((i : Int) < 0) from by omega, if_false, Int.toNat_natCast, Array.getElem?_eq_getElem hlt']
  refine wpAny_bind ?_
  first | refine wpAny_bind (wpAny_typeNameOfWhole_keyiter hit.typeIs (wpAny_pure ?_)) | refine wpAny_bind (wpAny_typeNameOf_keyiter hit.typeIs (wpAny_pure ?_))
  refine wpAny_bind (wpAny_isOneOf_keyiter hit.typeIs ?_)
  show wpAny _ _ (setField (.ref it) 1 (rawInt ((i : Int) + 1)) >>= _) _ _ s
  refine wpAny_bind (wpAny_setField ho hd (by simp) ?_)
  have hit' : (s.heap.update it (Obj.mapFields (·.setIfInBounds 1 (rawInt ((i : Int) + 1))))).IsKeyIter it d (i + 1) n ep :=
    ⟨_, Heap.get?_update_self _ ho (Obj.isFreed_of_fields (Obj.data_mapFields hd _)), (Obj.cls_mapFields ..).trans hc, by rw [Obj.data_mapFields hd]; simp [rawInt]⟩
  refine wpAny_bind (wpAny_holding ?_)
  refine wpAny_bind (wpAny_isOneOf_keyiter (s := { s with heap := s.heap.update it (Obj.mapFields (·.setIfInBounds 1 (rawInt ((i : Int) + 1)))) }) hit'.typeIs ?_)
  show wpAny _ _ (pure es[i].key) _ _ _
  rw [hen]
  exact wpAny_pure (wpAny_pure ⟨_, rfl, wpAny_pure (hQ _ hit' (Heap.SameBut.update ..))⟩)
theorem next_key_end {it d : Addr} {i n ep : Nat} {od : Obj} {es : Array DictEntry} {Q : Option Value → Shared → Prop} (hh : A.handled = none) (hit : s.heap.IsKeyIter it d i n ep) (hod : s.heap.get? d = some od) (hdd : od.data = .dict es ep)
    (hsz : es.size = n) (hge : n ≤ i) (hQ : ∀ h', Heap.ExtBut it s.heap h' → Q none { s with heap := h' }) : wpAny (model prog w) A (pyNext (.ref it)) Q E s := by
  obtain ⟨o, ho, hc, hd⟩ := id hit
  unfold pyNext
  refine wpAny_bind (wpAny_attempt (wpAny_callSpecial?_slot (name := Str.ofString "__next__") hit.typeIs F.slot_dict_keyiterator_next
    (wpAny_call_entry F.slot_dict_keyiterator_next hit.typeIs F.entry_dict_keyiterator_next ?_ (F.args_dict_keyiterator_next_1 _))))
  refine wpAny_bind (wpAny_pure ?_)
  refine wpAny_bind ?_
  refine wpAny_bind ?_
  first | refine wpAny_bind (wpAny_typeNameOfWhole_keyiter hit.typeIs (wpAny_pure ?_)) | refine wpAny_bind (wpAny_typeNameOf_keyiter hit.typeIs (wpAny_pure ?_))
  refine wpAny_bind (wpAny_fieldsOf ho hd ?_)
  have hown : Builtin.Dict_items.ownsTuple "dict_keyiterator" = false := by decide
  simp only [hown, Bool.false_eq_true, if_false]
  show wpAny _ _ (if (Value.ref d == Value.none) = true then _ else _) _ _ s
  rw [if_neg (show ¬ ((Value.ref d == Value.none) = true) from Bool.false_ne_true)]
  refine wpAny_bind (wpAny_pure ?_)
  refine wpAny_bind (wpAny_dictEntries hod hdd ?_)
  rw [if_neg (by rw [hsz]; simp)]
  refine wpAny_bind (wpAny_pure ?_)
  refine wpAny_bind (wpAny_dictEpoch hod hdd ?_)
  rw [if_neg (by simp)]
  refine wpAny_pure ?_
  have hge' : es.size ≤ i := by rw [hsz]; exact hge
  simp only [show ¬ ((i : Int) < 0) from by omega, if_false, Int.toNat_natCast, Array.getElem?_eq_none hge']
  refine wpAny_bind ?_
  first | refine wpAny_bind (wpAny_typeNameOfWhole_keyiter hit.typeIs (wpAny_pure ?_)) | refine wpAny_bind (wpAny_typeNameOf_keyiter hit.typeIs (wpAny_pure ?_))
  show wpAny _ _ (setField (.ref it) 0 .none >>= _) _ _ s
  refine wpAny_bind (wpAny_setField ho hd (by simp) ?_)
  show wpAny _ _ (newExc (.type "StopIteration") [] >>= _) _ _ _
  refine wpAny_bind ?_
  simp only [newExc, newTuple]
  refine wpAny_bind (wpAny_newObj_type ?_ (by size_fits))
  refine wpAny_bind (m := firstArgMember _ _) (wpAny_of_eq (a := Value.none) (by first | rfl | (simp only [firstArgMember]; rfl)) ?_)
  refine wpAny_newObj_type ?_ (by size_fits)
  simp only [raiseNew]
  refine wpAny_bind (wpAny_handled ?_)
  rw [show A.in1.handled = none from hh]
  refine wpAny_bind (wpAny_pure (wpAny_throw ?_))
  refine wpAny_bind (wpAny_isInstance (T := "StopIteration") (b := true) ⟨_, Heap.get?_push_size _ rfl, rfl⟩ isSubtype_stop ?_)
  exact wpAny_pure (hQ _ (((Heap.SameBut.update ..).extBut.push _).push _))
end

/-! ### a locked dict -/
theorem kv_get {κ : Type} {kvs : List (κ × V)} {vs : List (κ × Value)} (h : KV kvs vs) : ∀ {i : Nat} {k : κ} {v : V}, kvs[i]? = some (k, v) → ∃ u, vs[i]? = some (k, u) ∧ RelV v u := by
  unfold KV at h
  induction h with
  | nil => intro i k v e; simp at e
  | @cons a b l₁ l₂ r t ih =>
    intro i k v e
    cases i with
    | zero =>
      simp only [List.getElem?_cons_zero, Option.some.injEq] at e
      subst e
      refine ⟨b.2, ?_, r.2⟩
      simp only [List.getElem?_cons_zero]
      exact congrArg some (Prod.ext r.1.symm rfl)
    | succ j =>
      simp only [List.getElem?_cons_succ] at e ⊢
      exact ih e
theorem paired_get {α β : Type} {G : α → β → Prop} {l₁ : List α} {l₂ : List β} (h : Paired G l₁ l₂) : ∀ {i : Nat} {a : α}, l₁[i]? = some a → ∃ b, l₂[i]? = some b ∧ G a b := by
  induction h with
  | nil => intro i a e; simp at e
  | @cons a b l₁ l₂ r t ih =>
    intro i a' e
    cases i with
    | zero =>
      simp only [List.getElem?_cons_zero, Option.some.injEq] at e
      subst e
      exact ⟨b, rfl, r⟩
    | succ j =>
      simp only [List.getElem?_cons_succ] at e ⊢
      exact ih e
theorem relV_key {k : Key} {u : Value} (h : keyIs k u = true) : RelV (kV k) u := by
  rcases keyIs_shape h with ⟨i, t, rfl, rfl⟩ | ⟨x, t, rfl, rfl⟩
  · exact ⟨t, rfl⟩
  · exact ⟨t, rfl⟩
section
variable {X : Cx} {pins : List (Addr × Obj)} {σ : St} {H : Hp} {s : Shared} {d : Addr} {o : Obj}
theorem Inv.frzK {kvs : List (Key × V)} (I : Inv X pins σ H s) (h : H d = some (.frz o (.dK kvs))) :
    (d == sysModules) = false ∧ s.heap.get? d = some o ∧ o.ExactDict ∧ ∃ (es : Array DictEntry) (ep : Nat) (vs : List (Key × Value)), o.data = .dict es ep ∧ es.size = kvs.length ∧ KV kvs vs ∧ s.heap.DictAt (mixKind X.prog X.w) d vs ep := by
  obtain ⟨hd, z, hs, vs, kv, o', es, ep, ho, hx, hdt, r⟩ := I.hok d _ h
  rw [hd] at ho
  cases ho
  refine ⟨hs, hd, hx, es, ep, vs, hdt, ?_, kv, o, es, hd, hx, hdt, r⟩
  have l1 := r.2.1.length
  have l2 : kvs.length = vs.length := Paired.length kv
  rw [Array.length_toList] at l1
  omega
/-- the same for tuple keys -/
theorem Inv.frzT {kvs : List (List Key × V)} (I : Inv X pins σ H s) (h : H d = some (.frz o (.dT kvs))) :
    (d == sysModules) = false ∧ s.heap.get? d = some o ∧ o.ExactDict ∧ ∃ (es : Array DictEntry) (ep : Nat), o.data = .dict es ep ∧ es.size = kvs.length ∧
      ∀ (i : Nat) (k : List Key) (v : V), kvs[i]? = some (k, v) → ∃ (en : DictEntry) (q : Addr), es[i]? = some en ∧ en.key = .ref q ∧ H q = some (.tup (k.map kV)) := by
  obtain ⟨hd, z, hs, xs, pr, o', es, ep, ho, hx, hdt, he, _⟩ := I.hok d _ h
  rw [hd] at ho
  cases ho
  refine ⟨hs, hd, hx, es, ep, hdt, ?_, fun i k v e => ?_⟩
  · have l1 : es.size = xs.length := size_of_entries he
    have l2 : kvs.length = xs.length := Paired.length pr
    omega
  · obtain ⟨b, hb, e1, e2, _⟩ := paired_get pr e
    have q := entry_at he i
    rw [hb] at q
    exact ⟨_, b.2.1, q, rfl, e2⟩
end

/-- the keys of the locked dict at d, in their order -/
def Itk (d : Addr) (o : Obj) (kvs : List (Key × V)) : It :=
  ⟨fun i H => H d = some (.frz o (.dK kvs)) ∧ i < kvs.length, fun i H x H' => H' = H ∧ ∃ k v, kvs[i]? = some (k, v) ∧ x = kV k, fun i H => H d = some (.frz o (.dK kvs)) ∧ kvs.length ≤ i⟩
/-- .. of tuple keys: the key's own tuple -/
def Itkt (d : Addr) (o : Obj) (kvs : List (List Key × V)) : It :=
  ⟨fun i H => H d = some (.frz o (.dT kvs)) ∧ i < kvs.length, fun i H x H' => H' = H ∧ ∃ (k : List Key) (v : V) (q : Addr), kvs[i]? = some (k, v) ∧ x = .ref q ∧ H q = some (.tup (k.map kV)), fun i H => H d = some (.frz o (.dT kvs)) ∧ kvs.length ≤ i⟩
theorem dict_ep {o : Obj} {es es' : Array DictEntry} {ep ep' : Nat} (h : o.data = .dict es ep) (h' : o.data = .dict es' ep') : es' = es ∧ ep' = ep := by
  rw [h] at h'
  cases h'
  exact ⟨rfl, rfl⟩
section
variable {P : Program} {w : World} {K : PySem.W.Frag} {tg : Expr} {d : Addr} {o : Obj} {es : Array DictEntry} {ep : Nat}
theorem turn_keys {kvs : List (Key × V)} (it : Addr) (hod : o.data = .dict es ep) : Turn P w K tg (Itk d o kvs) [it] it (fun i h => h.IsKeyIter it d i kvs.length ep) where
  mem := by simp
  obj := fun i h st b hb => by
    have e : b = it := by simpa using hb
    subst e
    obtain ⟨oi, e, c, dd⟩ := st
    exact ⟨oi, e, fun v z => by rw [dd] at z; cases z⟩
  keep := fun i h h' st k => st.at fun oi e => k it (by simp) oi e
  item := by
    intro X hP hw hK hc i pins s σ H E I hf st hg
    subst hP hw hK
    obtain ⟨hd, hi⟩ := hg
    obtain ⟨f0, f1, f2, f3, f4, f5⟩ := hf it (by simp)
    obtain ⟨hs, hgd, hx, es', ep', vs, hdt, hsz, kv, hm⟩ := I.frzK hd
    obtain ⟨rfl, rfl⟩ := dict_ep hod hdt
    obtain ⟨⟨k, v⟩, hkv⟩ : ∃ p, kvs[i]? = some p := ⟨kvs[i], List.getElem?_eq_getElem hi⟩
    obtain ⟨u, hu, ru⟩ := kv_get kv hkv
    have hl : kvs.length = vs.length := Paired.length kv
    rw [hl] at st
    refine wpAny_pyNext_dict_item st hm hu fun key h' hkey st' sb => ?_
    have I1 : Inv X pins σ H { s with heap := h' } := I.turned (t' := s.toks) (fun b ob hb e => (sb.2 b hb).trans e) f0 f1 f3 f4 f5
    obtain ⟨oi, e, c, dd⟩ := id st'
    refine ⟨key, rfl, go_of (s := { s with heap := h' }) e c dd (by decide) ⟨kV k, H, I1, relV_key (show keyIs k key = true from hkey), ⟨rfl, k, v, hkv, rfl⟩, ?_, fun b hb => (hf b hb).1⟩⟩
    show h'.IsKeyIter it d (i + 1) kvs.length _
    rw [hl]
    exact st'
  done := by
    intro X hP hw hK hc i pins s σ H E I hf st hg
    subst hP hw hK
    obtain ⟨hd, hi⟩ := hg
    obtain ⟨f0, f1, f2, f3, f4, f5⟩ := hf it (by simp)
    obtain ⟨hs, hgd, hx, es', ep', vs, hdt, hsz, kv, hm⟩ := I.frzK hd
    obtain ⟨rfl, rfl⟩ := dict_ep hod hdt
    exact next_key_end (I.ok.hd hc) st hgd hdt hsz hi fun h' eb => ⟨rfl, I.turned (t' := s.toks) (fun b ob hb e => eb b ob hb e) f0 f1 f3 f4 f5⟩
  self := fun A i s Q E st h => wpAny_pyIter_keyiter st h
theorem turn_keysT {kvs : List (List Key × V)} (it : Addr) (hod : o.data = .dict es ep) : Turn P w K tg (Itkt d o kvs) [it] it (fun i h => h.IsKeyIter it d i kvs.length ep) where
  mem := by simp
  obj := fun i h st b hb => by
    have e : b = it := by simpa using hb
    subst e
    obtain ⟨oi, e, c, dd⟩ := st
    exact ⟨oi, e, fun v z => by rw [dd] at z; cases z⟩
  keep := fun i h h' st k => st.at fun oi e => k it (by simp) oi e
  item := by
    intro X hP hw hK hc i pins s σ H E I hf st hg
    subst hP hw hK
    obtain ⟨hd, hi⟩ := hg
    obtain ⟨f0, f1, f2, f3, f4, f5⟩ := hf it (by simp)
    obtain ⟨hs, hgd, hx, es', ep', hdt, hsz, ent⟩ := I.frzT hd
    obtain ⟨rfl, rfl⟩ := dict_ep hod hdt
    obtain ⟨⟨k, v⟩, hkv⟩ : ∃ p, kvs[i]? = some p := ⟨kvs[i], List.getElem?_eq_getElem hi⟩
    obtain ⟨en, q, hen, hkey, hq⟩ := ent i k v hkv
    refine next_key_item st hgd hdt hsz hen fun h' st' sb => ?_
    have I1 : Inv X pins σ H { s with heap := h' } := I.turned (t' := s.toks) (fun b ob hb e => (sb.2 b hb).trans e) f0 f1 f3 f4 f5
    obtain ⟨oi, e, c, dd⟩ := id st'
    exact ⟨en.key, rfl, go_of (s := { s with heap := h' }) e c dd (by decide) ⟨.ref q, H, I1, hkey, ⟨rfl, k, v, q, hkv, rfl, hq⟩, st', fun b hb => (hf b hb).1⟩⟩
  done := by
    intro X hP hw hK hc i pins s σ H E I hf st hg
    subst hP hw hK
    obtain ⟨hd, hi⟩ := hg
    obtain ⟨f0, f1, f2, f3, f4, f5⟩ := hf it (by simp)
    obtain ⟨hs, hgd, hx, es', ep', hdt, hsz, ent⟩ := I.frzT hd
    obtain ⟨rfl, rfl⟩ := dict_ep hod hdt
    exact next_key_end (I.ok.hd hc) st hgd hdt hsz hi fun h' eb => ⟨rfl, I.turned (t' := s.toks) (fun b ob hb e => eb b ob hb e) f0 f1 f3 f4 f5⟩
  self := fun A i s Q E st h => by
    refine wpAny_pyIter_slot st.typeIs F.slot_dict_keyiterator_iter (wpAny_call_entry F.slot_dict_keyiterator_iter st.typeIs F.entry_dict_keyiterator_iter ?_ (F.args_dict_keyiterator_iter_1 _))
    show wpAny _ _ (ret (.ref it)) _ _ s
    exact wpAny_pure ⟨_, rfl, "dict_keyiterator", _, st.typeIs, F.slot_dict_keyiterator_next.lookup, h⟩
end

/-! ### for k in d, d.keys(), d.values(), d.items() -/
/-- the dict is locked (tLock, or by the caller) -/
def iKeys (td : TE) : TI := fun σ H R => td σ H fun x H1 => ∃ d o, x = .ref d ∧ ((∃ kvs, H1 d = some (.frz o (.dK kvs)) ∧ R (Itk d o kvs) H1) ∨ ∃ kvs, H1 d = some (.frz o (.dT kvs)) ∧ R (Itkt d o kvs) H1)
section
variable {X : Cx} {tg e : Expr} {td : TE} {apos cpos : Pos}
theorem pi_keys (he : PE X e td) : PI X tg e (iKeys td) := by
  intro pins s σ H R I h
  refine thn (he pins s σ H _ I h) fun u s1 ⟨x, H1, I1, rx, d, o, ex, q⟩ => ?_
  subst ex
  obtain rfl : u = Value.ref d := rx
  rcases q with ⟨kvs, hd, q⟩ | ⟨kvs, hd, q⟩
  · obtain ⟨hs, hgd, hx, es, ep, vs, hdt, hsz, kv, hm⟩ := I1.frzK hd
    refine iter_keys hs hgd hx hdt (pi_one (tk := s1.toks) I1 _ (turn_keys _ hdt) ⟨_, Heap.get?_push_size _ rfl, rfl, ?_⟩ q)
    rw [hsz] <;> rfl
  · obtain ⟨hs, hgd, hx, es, ep, hdt, hsz, ent⟩ := I1.frzT hd
    refine iter_keys hs hgd hx hdt (pi_one (tk := s1.toks) I1 _ (turn_keysT _ hdt) ⟨_, Heap.get?_push_size _ rfl, rfl, ?_⟩ q)
    rw [hsz] <;> rfl
end

/-! ### enumerate(list) -/
/-! ### zip(list, list) -/
theorem boot_zip5 : bootBuiltins "zip" = some (.type "zip") := by decide +kernel
/-- the lists at a and b as they stand at each turn, the items in new pairs -/
def Itz (K : PySem.W.Frag) (a b : Addr) : It :=
  ⟨fun i H => ∃ (xs ys : List V) (x y : V), SqL K H a xs ∧ SqL K H b ys ∧ xs[i]? = some x ∧ ys[i]? = some y,
    fun i H v H' => ∃ T x y, v = .ref T ∧ H T = none ∧ H' = upd H T (.tup [x, y]) ∧ (∀ xs, SqL K H a xs → xs[i]? = some x) ∧ ∀ ys, SqL K H b ys → ys[i]? = some y,
    fun i H => ∃ xs ys : List V, SqL K H a xs ∧ SqL K H b ys ∧ (xs.length ≤ i ∨ ys.length ≤ i)⟩
theorem turn_zip {P : Program} {w : World} {K : PySem.W.Frag} {elts : List Expr} {kk : Nat} {tpos : Pos} {a b z TI TO i1 i2 : Addr} (D : ZipApart z TI TO i1 i2 a b) :
    Turn P w K (.Tuple elts kk tpos) (Itz K a b) [z, TI, TO, i1, i2] z (fun i h => IsZip h z TI TO .none ∧ IsPair h TI (.ref i1) (.ref i2) ∧ (∃ x y, IsPair h TO x y) ∧ h.IsListIter i1 a i ∧ h.IsListIter i2 b i) where
  mem := by simp
  obj := fun i h st c hc => by
    obtain ⟨hz, hTI, ⟨x, y, hTO⟩, ⟨o1, e1, _, d1⟩, ⟨o2, e2, _, d2⟩⟩ := st
    have e' : c = z ∨ c = TI ∨ c = TO ∨ c = i1 ∨ c = i2 := by simpa using hc
    rcases e' with q | q | q | q | q
    · rw [q]; exact ⟨_, hz, fun v q => nomatch q⟩
    · rw [q]; exact ⟨_, hTI, fun v q => nomatch q⟩
    · rw [q]; exact ⟨_, hTO, fun v q => nomatch q⟩
    · rw [q]; exact ⟨o1, e1, fun v q => by rw [d1] at q; cases q⟩
    · rw [q]; exact ⟨o2, e2, fun v q => by rw [d2] at q; cases q⟩
  keep := fun i h h' st k => by
    obtain ⟨hz, hTI, ⟨x, y, hTO⟩, h1, h2⟩ := st
    exact ⟨k z (by simp) _ hz, k TI (by simp) _ hTI, ⟨x, y, k TO (by simp) _ hTO⟩, h1.at fun o q => k i1 (by simp) o q, h2.at fun o q => k i2 (by simp) o q⟩
  item := by
    intro X hP hw hK hc i pins s σ H E I hf st hg
    subst hP hw hK
    obtain ⟨hz, hTI, ⟨x0, y0, hTO⟩, h1, h2⟩ := st
    obtain ⟨xs, ys, x, y, hqx, hqy, hx, hy⟩ := hg
    obtain ⟨its, rv, p, _⟩ := I.list hqx
    obtain ⟨its2, rv2, p2, _⟩ := I.list hqy
    obtain ⟨u, hu, ru⟩ := rv.get hx
    obtain ⟨u2, hu2, ru2⟩ := rv2.get hy
    have hzl : z < s.heap.objs.size := Heap.lt_size hz
    refine wpAny_pyNext_zip_item D hz hTI hTO h1 h2 p.isList p2.isList (x := u) (y := u2) (by simpa using hu) (by simpa using hu2) fun h' z' TO' h1' h2' hT hsz hk => ?_
    refine ⟨_, rfl, wpAny_letOwnedTupleGo_zip (s := { s with heap := h' }) z' fun h'' z'' sb => ?_⟩
    have hT2 : h''.get? s.heap.objs.size = some { cls := .type "tuple", data := .seq #[u, u2] } := (sb.2 _ (Nat.ne_of_gt hzl)).trans hT
    have new : ObjOk X.prog X.w (upd H s.heap.objs.size (.tup [x, y])) h'' s.heap.objs.size (.tup [x, y]) :=
      ⟨by show 2 ≤ sizeLine; decide, [u, u2], .cons ru (.cons ru2 .nil), ⟨_, hT2, rfl, _, rfl⟩, _, hT2, rfl⟩
    have I1 : Inv X pins σ (upd H s.heap.objs.size (.tup [x, y])) { s with heap := h'' } :=
      I.turnedNew (t' := s.toks) (ch := [z, TI, TO, i1, i2]) (fun c o hb q => (sb.2 c (fun q' => hb (by simp [q']))).trans (hk c o (fun q' => hb (by simp [q'])) (fun q' => hb (by simp [q'])) (fun q' => hb (by simp [q'])) (fun q' => hb (by simp [q'])) q)) hf (Nat.le_refl _) new
    refine ⟨.ref s.heap.objs.size, _, I1, rfl, ⟨_, x, y, rfl, I.hok.fresh (Nat.le_refl _), rfl, fun l hl => by rw [I.list_inj hl hqx]; exact hx, fun l hl => by rw [I.list_inj hl hqy]; exact hy⟩, ⟨z'', ?_, ⟨u, u2, ?_⟩, ?_, ?_⟩, fun c hcm => ?_⟩
    · exact (sb.2 _ D.TIz).trans (hk _ _ D.TIz D.TITO D.TIi1 D.TIi2 hTI)
    · exact (sb.2 _ D.TOz).trans TO'
    · exact h1'.at fun o q => (sb.2 _ D.i1z).trans q
    · exact h2'.at fun o q => (sb.2 _ D.i2z).trans q
    · have hlt : c < s.heap.objs.size := by
        have e' : c = z ∨ c = TI ∨ c = TO ∨ c = i1 ∨ c = i2 := by simpa using hcm
        rcases e' with q | q | q | q | q
        · rw [q]; exact hzl
        · rw [q]; exact Heap.lt_size hTI
        · rw [q]; exact Heap.lt_size hTO
        · rw [q]; obtain ⟨_, e1, _⟩ := h1; exact Heap.lt_size e1
        · rw [q]; obtain ⟨_, e2, _⟩ := h2; exact Heap.lt_size e2
      rw [upd_ne (Nat.ne_of_lt hlt)]
      exact (hf c hcm).1
  done := by
    intro X hP hw hK hc i pins s σ H E I hf st hg
    subst hP hw hK
    obtain ⟨hz, hTI, ⟨x0, y0, hTO⟩, h1, h2⟩ := st
    obtain ⟨xs, ys, hqx, hqy, hend⟩ := hg
    obtain ⟨its, rv, p, _⟩ := I.list hqx
    obtain ⟨its2, rv2, p2, _⟩ := I.list hqy
    have l1 := rv.length
    have l2 := rv2.length
    have he : its.toArray[i]? = none ∨ its2.toArray[i]? = none := by
      rcases hend with q | q
      · exact .inl (by simp; omega)
      · exact .inr (by simp; omega)
    exact wpAny_pyNext_zip_end (I.ok.hd hc) D hz hTI hTO h1 h2 p.isList p2.isList he fun h' hk => ⟨rfl, I.turnedL (t' := s.toks) (ch := [z, TI, TO, i1, i2]) (fun c o hb q =>
      hk c o (fun q' => hb (by simp [q'])) (fun q' => hb (by simp [q'])) (fun q' => hb (by simp [q'])) (fun q' => hb (by simp [q'])) q) hf⟩
  self := fun A i s Q E st h => wpAny_pyIter_zip st.1 h
end L2

section 
namespace Bits
open PySem PyProof.Rows








end Bits
end 

section 
namespace TL
open PySem PySem.Builtin PySem.Builtin.Str PySem.StrLaws

abbrev tl (x : Str) : List Nat := x.cps.toList

/-! ### the list functions -/
/-- S stands at the head of l -/
def pre (S l : List Nat) : Bool := l.take S.length == S
/-- l cut at each S from the left; k signs are still to be passed over -/
def spl (S : List Nat) : Nat → List Nat → List Nat → List (List Nat)
  | _, acc, [] => [acc]
  | 0, acc, c :: r => if pre S (c :: r) = true then acc :: spl S (S.length - 1) [] r else spl S 0 (acc ++ [c]) r
  | k + 1, acc, _ :: r => spl S k acc r
/-- what stands before the first S, and behind it -/
def par (S : List Nat) : List Nat → List Nat → Option (List Nat × List Nat)
  | _, [] => none
  | acc, c :: r => if pre S (c :: r) = true then some (acc, (c :: r).drop S.length) else par S (acc ++ [c]) r




/-! ### the model's split and partition are these -/




/-! ### computing spl and par -/


/-! ### digits -/

/-! ### words: x.split() -/
end TL
end 

namespace L2
open PySem PySem.Spec PyProof.Rows


theorem strs_of_vals : ∀ {ys : List Str} {us : List Value}, Vals (ys.map V.str) us → StrsAre us ys
  | [], _, .nil => .nil
  | y :: ys, _, .cons r t => by
    obtain ⟨k, rfl⟩ := r
    exact .cons y k (strs_of_vals t)


section
variable {X : Cx} {pins : List (Addr × Obj)} {σ : St} {H : Hp} {s : Shared} {Q : VK}
end

section
variable {X : Cx}




/-- sep.join(a list | a tuple of texts) -/
theorem mt_join : MtR X "str.join" (fun x xs H Q => ∃ a p, ∃ ys : List Str, x = .str a ∧ xs = [.ref p] ∧ (SqL X.K H p (ys.map V.str) ∨ SqT X.K H p (ys.map V.str)) ∧
    (ys.map (·.length)).sum + ys.length * a.length ≤ 16777216 ∧ Q (.str (Txt.join a ys)) H) := by
  intro pins s σ H x xs v us Q I rx rs h
  obtain ⟨a, p, ys, rfl, rfl, hp, hz, h⟩ := h
  obtain ⟨t, rfl⟩ := rx
  cases rs with
  | cons r1 rs =>
    cases rs
    cases r1
    rcases hp with hp | hp
    · obtain ⟨its, r, ⟨o, n, ho, hc, _, hd⟩, _⟩ := I.list hp
      exact PyProof.Rows.join_list (items := its.toArray) ⟨o, ho, hc, n, hd⟩ (by rw [List.toList_toArray]; exact strs_of_vals r) hz fun t' k => ⟨.str _, H, I.tok k, ⟨t', rfl⟩, h⟩
    · obtain ⟨its, r, ht, _⟩ := I.tuple hp
      exact PyProof.Rows.join_tuple (items := its.toArray) ht (by rw [List.toList_toArray]; exact strs_of_vals r) hz fun t' k => ⟨.str _, H, I.tok k, ⟨t', rfl⟩, h⟩

/-! ### of a text alone -/

/-! ### of a text and a text -/

end

section
variable {X : Cx} {o e : Expr} {to te : TE}
def tM1 (r : V → List V → Hp → VK → Prop) (to te : TE) : TE := fun σ H Q => to σ H fun x H1 => (∃ a, x = .str a) ∧ te σ H1 fun y H2 => r x [y] H2 Q
theorem pe_m1 {id : String} {name : Str} {apos pos : Pos} {r : V → List V → Hp → VK → Prop} (slot : Slot "str" name id) (ty : typeOf (.builtin id) = pure (.type "method_descriptor")) (rule : MtR X id r) (ho : PE X o to) (he : PE X e te)
    (hs : starEach [e] X.env = [(false, eval e X.env)] := by rfl) (hbase : attributeBase o name X.env (eval o X.env) = eval o X.env := by rfl) (hline : (apos.endLine == pos.line) = true := by rfl) :
    PE X (.Call (.Attribute o name apos) [e] [] pos) (tM1 r to te) := by
  intro pins s σ H Q I h
  refine PySem.Call_method1 hbase hs hline (thn (ho pins s σ H _ I h) fun v s1 ⟨x, H1, I1, r1, q1⟩ => ?_)
  obtain ⟨⟨a, rfl⟩, q1⟩ := q1
  obtain ⟨t, rfl⟩ := _root_.id r1
  refine ⟨"str", _, F.plainAttrs_str, slot, ty, typeIs_str _ _ _, (fun _ e => nomatch e), Calls.callWith_builtin rfl (Calls.evalArgs_plain (Calls.spliced_cons ?_))⟩
  exact thn (he pins s1 σ H1 _ I1 q1) fun u s2 ⟨y, H2, I2, r2, q2⟩ => Calls.spliced_nil (rule pins s2 σ H2 _ [y] _ [u] Q I2 r1 (.cons r2 .nil) q2)

theorem pe_join {apos pos : Pos} (ho : PE X o to) (he : PE X e te) (hs : starEach [e] X.env = [(false, eval e X.env)] := by rfl) (hbase : attributeBase o "join" X.env (eval o X.env) = eval o X.env := by rfl) (hline : (apos.endLine == pos.line) = true := by rfl) :
    PE X (.Call (.Attribute o "join" apos) [e] [] pos) (tM1 (fun x xs H Q => ∃ a p, ∃ ys : List Str, x = .str a ∧ xs = [.ref p] ∧ (SqL X.K H p (ys.map V.str) ∨ SqT X.K H p (ys.map V.str)) ∧
      (ys.map (·.length)).sum + ys.length * a.length ≤ 16777216 ∧ Q (.str (Txt.join a ys)) H) to te) :=
  pe_m1 F.slot_str_join F.type_str_join mt_join ho he hs hbase hline
end
end L2

namespace L2
open PySem PySem.Spec PyProof.Rows

section
variable {X : Cx}
end

/-! ### slices of a text -/
theorem IsPart.raw {v : Value} {o : Option Int} (p : IsPart v o) : ∃ l : Option (Int × Tok), v = partValue l ∧ l.map (·.1) = o := by
  cases p with
  | none => exact ⟨none, rfl, rfl⟩
  | int i t => exact ⟨some (i, t), rfl, rfl⟩


end L2

namespace Att
open PySem PySem.W PySem.Calls PyProof.Rows

/-! ### the script -/
theorem ints_of_wellAll {P : Params} {h : Heap} : ∀ (ns : List Int) (vs : List Value), WellAll P h vs (ns.map WData.int) → IntsAre vs ns := by
  intro ns
  induction ns with
  | nil =>
    intro vs w
    rw [List.map_nil] at w
    cases w
    exact .nil
  | cons n ns ih =>
    intro vs w
    rw [List.map_cons] at w
    cases w with
    | cons a b =>
      cases a
      exact .cons _ _ (ih _ b)

theorem script_of {l : OpenLaw} {n : Nat} (hn : l.most = some n) {P : Params} {h : Heap} {args : List WData} {vals : List Value}
    (hpre : l.row.toRowW.claim.pre args = true) (hwl : WellAll P h vals args) :
    ∃ a vs ns, vals = [Value.ref a] ∧ args = [WData.list (ns.map WData.int)] ∧ h.get? a = some { cls := .type "list", data := .seq vs.toArray } ∧ IntsAre vs ns ∧ ns.length ≤ n := by
  have hsh : WShape.hasAll [] args [.list .int] = true := (pre_splitW hpre).1
  have hc : l.pre.holds [] { args := args } = true := (pre_splitW hpre).2
  obtain ⟨d, r, rfl, h1, h2⟩ := hasAllW_cons hsh
  obtain rfl := hasAllW_nil h2
  obtain ⟨xs, rfl, h3⟩ := hasW_list h1
  obtain ⟨ns, rfl⟩ := items_int h3
  have hlen : ns.length ≤ n := by
    unfold OpenLaw.pre at hc
    have h4 : (WTm.not (.lt (.lit (.int (n : Int))) (.len (.arg 0)))).holds [] { args := [.list (ns.map .int)] } = true := by
      have h4 := (holds_andW hc).1
      rw [hn] at h4
      exact h4
    have h5 := condW_of h4 (w_not (w_lt w_lit (w_len_list (w_arg rfl))))
    rw [List.length_map] at h5
    refine Nat.le_of_not_lt fun q => ?_
    have q' : (n : Int) < ((ns.length : Nat) : Int) := by omega
    first
      | (rw [decide_eq_true q'] at h5; exact absurd h5 (by decide))
      | (simp at h5; omega)
  cases hwl with
  | cons w1 w2 =>
    cases w2
    cases w1 with
    | list ho hall => exact ⟨_, _, ns, rfl, rfl, ho, ints_of_wellAll ns _ hall, hlen⟩

theorem post_true (l : OpenLaw) (args : List WData) : l.row.toRowW.claim.post args (.bool true) args = true :=
  postW_of (r := l.row.toRowW) (X := (true == true))
    (show WShape.has [] (.bool true) .bool = true by first | rfl | decide | simp [WShape.has, WShape.arms, WShape.armsAll])
    (show (WTm.eq .res (.lit (.bool true))).value [] { args := args, res := some (.bool true), after := args } = some (.bool (true == true)) from w_eq_bool (w_res rfl) w_lit) rfl

/-! ### the attachment: holds_open's last premise (the goal 'hc' behind k_head) from a wpAny of the law's body -/

/-- the same from a codeAny of the CALL (for a layer whose function contracts speak of calls) -/
theorem attach_call {l : OpenLaw} {n : Nat} {q : Program} {loose : List Str} {XP : (Str → Option Value) → Heap → Prop} {YP : World → Heap → Prop} {d : DefRec}
    (hn : l.most = some n) (hdf : d.params.defaults = [])
    (call : ∀ (w : World) (s₀ s₁ : Shared) (mg mb : Str → Option Value) (fa : Addr) (o : Obj) (pm cd doc : Value) (a : Addr) (vs : List Value) (ns : List Int),
      Ground q loose [] XP w s₀ mg mb s₁.heap → YP w s₁.heap →
      s₁.heap.get? fa = some o → o.data = .func (docDef d.name d.params d.body d.scope pm cd doc) → s₁.heap.CodeRec cd d.name → mg d.name = some (.ref fa) →
      s₁.heap.get? a = some { cls := .type "list", data := .seq vs.toArray } → IntsAre vs ns → ns.length ≤ n → s₁.gens = #[] →
      codeAny (model l.prog w) callerA (.call (.ref fa) ⟨[.ref a], []⟩) (fun r s' => r = .ok (.ret (.bool true)) ∧ OldK s₁.heap s'.heap ∧ s'.os = s₁.os ∧ AllBare s'.gens) s₁) :
    WalkO q loose XP YP l.row.toRowW d [] (fun f vs => PySem.call f vs) := by
  intro w s₀ s₁ mg mb G Y fa o pm cd doc dV kV ho hd hcd hD hmg hg args vals as hpre hlay hrd hwl hlo
  obtain rfl : dV = .none := Dflts.none hD hdf
  obtain rfl : kV = .none := Dflts.noKw hD
  obtain ⟨a, vs, ns, rfl, rfl, hobj, hints, hlen⟩ := script_of hn hpre hwl
  refine enter_call (codeAny_mono (call w s₀ s₁ mg mb fa o pm cd doc a vs ns G Y ho (fd_plain hd) hcd hmg hobj hints hlen hg) fun r s' hq => ?_)
  obtain ⟨rfl, h2, h3, h4⟩ := hq
  exact ⟨.inl ⟨.bool true, .bool true, [], rfl, fun _ => rfl, .bool true, post_true l _, fun _ => ⟨List.Pairwise.nil, fun _ hm => (nomatch hm)⟩⟩, h2, h3, h4⟩


/-! ### rules over ANY heap (no ledger) from facts about the written part K: the library's own take a ledger (News) for what they write -/
section
variable {prog : Program} {w : World} {A : Around} {E : Value → Shared → Prop} {s : Shared} {K : Frag}





/-! the whole heap as the ledger: makes every rule that writes through a ledger a rule over any heap -/
def ledger (h : Heap) (L d : Addr) : List (Addr × Obj) := (List.range h.objs.size).filterMap fun a => if a = L ∨ a = d then none else (h.get? a).map fun o => (a, o)

end
end Att

namespace L2
open PySem PySem.Spec PyProof.Rows

theorem vals_ints : ∀ {vs : List Value} {ns : List Int}, IntsAre vs ns → Vals (ns.map V.int) vs
  | _, _, .nil => .nil
  | _, _, .cons n t h => .cons ⟨t, rfl⟩ (vals_ints h)

/-- nothing is tracked but the script, known to the object (or it is an object of the module) -/
def Only (H : Hp) : Prop := ∀ b, H b = none ∨ ∃ o xs, H b = some (.frz o (.lst xs))

/-- THE HEAD: the law's promise, at the heap behind the top. F, the promise of the law's def, may use that base is part of the heap (so K.In base, base.Ns mainGlobals mg stand in Mod) -/
theorem law_call {P : Program} {w : World} {K : PySem.W.Frag} {mg mb : Str → Option Value} {CX : CXT} {k : Nat} {fa a : Addr} {fd : FuncData} {x : Str} {sp : Sp} {s₁ : Shared} {vs : List Value} {ns : List Int}
    (KX : K.In s₁.heap) (hns : s₁.heap.Ns mainGlobals mg) (hb : s₁.heap.Ns builtinsNs mb) (hbb : ∀ x : Str, x ≠ "__name__" → mb x = bootBuiltins x) (hlim : s₁.heap.NoLimit) (hg : s₁.gens = #[])
    (ha : s₁.heap.get? a = some { cls := .type "list", data := .seq vs.toArray }) (hi : IntsAre vs ns) (hl : ns.length ≤ sizeLine) (hr : Room k callerA)
    (F : ∀ base : Heap, K.In base → base.Ns mainGlobals mg → FnOk P w K mg base CX k fa fd [x] sp) (hbind : ∀ (s : Shared) (u : Value), BindsTo s fd ⟨[u], []⟩ [(x, u)])
    (hsp : ∀ H : Hp, Only H → SqL K H a (ns.map V.int) → sp [.ref a] H (fun v _ => v = .bl true) fun _ _ _ => False)
    (hCX : ∀ H e s', CX [] H s₁ (fun _ _ _ => False) e s' → False) :
    codeAny (model P w) callerA (.call (.ref fa) ⟨[.ref a], []⟩) (fun r s' => r = .ok (.ret (.bool true)) ∧ OldK s₁.heap s'.heap ∧ s'.os = s₁.os ∧ AllBare s'.gens) s₁ := by
  have rv := vals_ints hi
  have lenV := hi.length
  -- from an abstract heap in which nothing but the script may be tracked
  have core : ∀ H : Hp, Only H → SqL K H a (ns.map V.int) → HOk P w H s₁.heap → (∀ b, H b ≠ none → b = a) → (H a ≠ none → K.lookup a = none) →
      codeAny (model P w) callerA (.call (.ref fa) ⟨[.ref a], []⟩) (fun r s' => r = .ok (.ret (.bool true)) ∧ OldK s₁.heap s'.heap ∧ s'.os = s₁.os ∧ AllBare s'.gens) s₁ := by
    intro H hO hS hok hA hK
    have base_of : ∀ {b : Addr} {o : Obj}, s₁.heap.get? b = some o → H b = none → (hidT s₁.heap H).get? b = some o := fun e n => hidT_get e n
    have noA : ∀ {b : Addr} {o : Obj} {es : Array DictEntry} {ep : Nat}, s₁.heap.get? b = some o → o.data = .dict es ep → H b = none := fun {b o es ep} e d => by
      cases q : H b with
      | none => rfl
      | some u =>
        have e' : b = a := hA b (by rw [q]; simp)
        subst e'
        rw [ha] at e; cases e
        have d' : Data.seq vs.toArray _ = Data.dict es ep := d
        cases d'
    have nsK : ∀ {b : Addr} {m : Str → Option Value}, s₁.heap.Ns b m → (hidT s₁.heap H).Ns b m := fun {b m} ⟨o, es, ep, e, d, r⟩ => ⟨o, es, ep, base_of e (noA e d), d, r⟩
    have hKb : K.In (hidT s₁.heap H) := fun b o e => base_of (KX b o e) (by
      cases q : H b with
      | none => rfl
      | some u =>
        have e' : b = a := hA b (by rw [q]; simp)
        subst e'
        rw [hK (by rw [q]; simp)] at e; cases e)
    have hM : Mod K mg (hidT s₁.heap H) := ⟨hKb, nsK hns, ⟨mb, nsK hb, hbb⟩, let ⟨mc, h1, h2⟩ := hlim; ⟨mc, nsK h1, h2⟩⟩
    have e0 : Env0 P w K mg (hidT s₁.heap H) callerA [] s₁ H := ⟨rfl, hM, fun b o e => of_hidT e, Nat.le_of_eq (hidT_size _ _), trivial, fun b hb => absurd (show b ∈ ([] : List Addr) from hb) (by simp), hok, .of_eq hg⟩
    refine codeAny_mono ((F _ hKb (nsK hns)).run callerA [] s₁ H ⟨[.ref a], []⟩ [.ref a] [.ref a] _ _ hr e0 (hbind s₁ (.ref a)) (.cons rfl .nil) (hsp H hO hS)) fun r s' h => ?_
    cases r with
    | error e => exact (hCX H e s' h).elim
    | ok fl =>
      cases fl with
      | next => exact False.elim h
      | brk => exact False.elim h
      | cont => exact False.elim h
      | ret u =>
        obtain ⟨v, H', os, bare, un, hok', r', q⟩ := h
        have q' : v = .bl true := q
        subst q'
        obtain rfl : u = Value.bool true := r'
        refine ⟨rfl, OldK.of_keep fun b o e => ?_, os, bare⟩
        cases q : H b with
        | none => exact un.keep b o e q (by intro z; exact absurd (show b ∈ ([] : List Addr) from z) (by simp)) (by simp)
        | some u =>
          rcases hO b with z | ⟨ob, xs, z⟩
          · rw [q] at z; cases z
          · have z2 := un.frzs b ob _ z
            obtain ⟨e1, _⟩ := hok b _ z
            obtain ⟨e2, _⟩ := hok' b _ z2
            rw [e] at e1; cases e1
            exact e2
  cases hk : K.lookup a with
  | some o =>
    -- the script is one of the module's own objects
    have e := KX a o hk
    rw [ha] at e
    cases e
    refine core (fun _ => none) (fun _ => .inl rfl) (.inr ⟨_, vs.toArray, _, hk, rfl, rfl, rfl, by rw [List.size_toArray, lenV]; exact hl, by simpa using rv⟩) (fun b u z => by have z' : (none : Option HO) = some u := z; cases z') (fun b z => absurd rfl z) fun z => absurd rfl z
  | none =>
    refine core (fun b => if b = a then some (.frz { cls := .type "list", data := .seq vs.toArray } (.lst (ns.map V.int))) else none) (fun b => ?_) (.inl (.inr ⟨{ cls := .type "list", data := .seq vs.toArray }, if_pos rfl⟩)) (fun b u z => ?_) (fun b z => ?_) fun _ => hk
    · by_cases hb : b = a
      · exact .inr ⟨_, _, if_pos hb⟩
      · exact .inl (if_neg hb)
    · by_cases hb : b = a
      · have z' := (if_pos hb).symm.trans z
        cases z'
        subst hb
        exact ⟨ha, by rw [List.length_map]; exact hl, vs, _, rv, ha⟩
      · have z' := (if_neg hb).symm.trans z
        cases z'
    · by_cases hb : b = a
      · exact hb
      · exact absurd (if_neg hb) z
end L2

namespace L2
open PySem PySem.Spec PyProof.Rows

abbrev KOf {K : PySem.W.Frag} {h : Heap} (_ : K.In h) : PySem.W.Frag := K

/-- the goal that k_head leaves (case hc), from the law's promise. F gives the function object fd (K's own) once, then the promise over every base -/
theorem walk_of {l : PySem.W.OpenLaw} {n k : Nat} {q : Program} {loose : List Str} {XP : (Str → Option Value) → Heap → Prop} {YP : World → Heap → Prop} {d : DefRec} {K : Params → PySem.W.Frag} {CX : World → CXT} {sp : World → Sp} {x : Str}
    (hn : l.most = some n) (hn2 : n ≤ sizeLine) (hdf : d.params.defaults = []) (hr : Room k callerA)
    (hY : ∀ (w : World) (h : Heap), YP w h → (K w.params).In h)
    (F : ∀ (w : World) (mg : Str → Option Value) (fa : Addr) (h : Heap), (K w.params).In h → h.Ns mainGlobals mg → mg d.name = some (.ref fa) →
      ∃ fd : FuncData, (∀ (s : Shared) (u : Value), BindsTo s fd ⟨[u], []⟩ [(x, u)]) ∧
        ∀ base : Heap, (K w.params).In base → base.Ns mainGlobals mg → FnOk l.prog w (K w.params) mg base (CX w) k fa fd [x] (sp w))
    (hsp : ∀ (w : World) (H : Hp) (a : Addr) (ns : List Int), ns.length ≤ n → Only H → SqL (K w.params) H a (ns.map V.int) → sp w [.ref a] H (fun v _ => v = .bl true) fun _ _ _ => False)
    (hCX : ∀ (w : World) (H : Hp) (s : Shared) (e : Value) (s' : Shared), CX w [] H s (fun _ _ _ => False) e s' → False) :
    PySem.W.WalkO q loose XP YP l.row.toRowW d [] (fun f vs => PySem.call f vs) := by
  refine Att.attach_call hn hdf fun w s₀ s₁ mg mb fa o pm cd doc a vs ns G Y ho hd hcd hmg hobj hints hlen hg => ?_
  have KX := hY w _ Y
  obtain ⟨fd, hb, hF⟩ := F w mg fa _ KX G.T.g hmg
  exact law_call KX G.T.g G.T.b G.T.builtins G.T.nolimit hg hobj hints (Nat.le_trans hlen hn2) hr hF hb (fun H hO hS => hsp w H a ns hlen hO hS) fun H e s' => hCX w H s₁ e s'
end L2

/- THE LAST THEOREM (shape; LID, My.* are yours):
   My.Adr: a structure of the addresses that your layer names (classes, functions); My.Txt K t: a structure (Prop) of the equations over K;
   My.txt_mk : {K} {implicit addresses ..} (e1 : nsIn K mainGlobals "law" = some (some (.ref f))) (e2 : K.lookup f = some ⟨oc, od, .func (fnOf "law" "law" params body scope dV kV doc pm an cdv ct), sl⟩) (e3 : codeIn K cdv "law" = true) .. : ∃ t, My.Txt K t

set_option maxRecDepth 100000 in
set_option maxHeartbeats 0 in
theorem PySem.Challenge.cw_LID_holds : PySem.Challenge.rw_LID.Holds := by
  w_on; o_law; k_head; (case hw => w_witness2)
  k_fill
  refine L2.walk_of (l := PySem.Challenge.rw_LID) (n := 63) (k := 40) (x := "script") (CX := fun w => ..) (sp := fun _ => My.sp_law) rfl (by decide) rfl ⟨rfl, by decide, by decide⟩ (fun w h Y => PySem.W.kIn_of Y) ?F ?S ?C
  case F =>
    intro w mg fa h KX G hmg
    have T : ∃ t, My.Txt (L2.KOf KX) t := by
      dsimp only [L2.KOf]                          -- K must stand as «<heap const> w.params» for k_is
      refine' My.txt_mk ?e1 ?e2 ?e3 ..
      (case e1 => PySem.W.k_is)                    -- in the order: a name -> its address -> its object -> its parts
      (case e2 => PySem.W.k_is)
      ..
    obtain ⟨t, T⟩ := T
    have e0 := hmg.symm.trans (PySem.W.mg_of KX G T.law)
    cases e0                                       -- fa is the law's own address
    exact ⟨_, fun s u => .of_eq rfl, fun base kb nb => My.law_fn T kb nb⟩     -- if «.of_eq rfl» comes too early: refine' ⟨_, ?b, fun base kb nb => My.law_fn T kb nb⟩; exact fun s u => .of_eq rfl
  case S => exact fun w H a ns hl hO hS => ..
  case C => exact ..
(the tactic k_is has no namespace: write k_is) -/

/-! SHORT WORDS over the layer: a def of the text, its body, what a loop and a test want. -/
namespace L2
open PySem PySem.Spec PyProof.Rows

/-! ### the text by places -/
/-- the j-th statement of a class's body -/
def inClass (s : Stmt) (j : Nat) : Stmt := match s with
  | .ClassDef _ _ _ body _ _ _ _ _ _ _ => body.getD j (.Pass ⟨0, 0, 0, 0⟩)
  | _ => .Pass ⟨0, 0, 0, 0⟩
def defArgs (s : Stmt) : Arguments := match s with
  | .FunctionDef _ a _ _ _ _ _ _ _ _ => a
  | _ => { posonlyargs := [], args := [], vararg := none, kwonlyargs := [], kw_defaults := [], kwarg := none, defaults := [] }
def defBody (s : Stmt) : List Stmt := match s with
  | .FunctionDef _ _ b _ _ _ _ _ _ _ => b
  | _ => []
def defScope (s : Stmt) : Scope := match s with
  | .FunctionDef _ _ _ _ _ _ sc _ _ _ => sc
  | _ => { kind := .function, names := [], isGenerator := false, isCoroutine := false }

/-! ### no exception leaves a def -/
abbrev CX0 : CXT := fun _ _ _ _ _ _ => False
abbrev E0 : XK := fun _ _ _ => False
theorem pass0 {X : Cx} : Passes CX0 X E0 := fun _ _ _ _ _ _ _ h => h.elim

/-! ### a def (or method) of the text as it stands behind the top -/
structure Fun (K : PySem.W.Frag) (x qual : Str) (st : Stmt) (f : Addr) (fd : FuncData) : Prop where
  ex : ∃ (oc : Value) (od : Option Addr) (kV doc pm : Value) (an : Option Addr) (cdv ct : Value) (osl : Array (Option Value)),
    fd = PySem.W.fnOf x qual (defArgs st) (defBody st) (defScope st) .none kV doc pm an cdv ct ∧ K.lookup f = some ⟨oc, od, .func fd, osl⟩ ∧ PySem.W.codeIn K cdv qual = true
  kp : PySem.W.keepIn K (.ref f) = true
section
variable {P : Program} {w : World} {K : PySem.W.Frag} {mg : Str → Option Value} {base : Heap}
/-- THE RULE for a def: its body as a term of rules, and the reading of that term -/
theorem Fun.ok {x qual : Str} {st : Stmt} {f : Addr} {fd : FuncData} {N ps : List Str} {k : Nat} {sp : Sp} (F : Fun K x qual st f fd) (S : FnScope N ps (defScope st)) (len : ∀ vs H Q E, sp vs H Q E → vs.length = ps.length)
    (hbody : ∀ (cdv : Value) (A : Around) (outer : List Env) (s : Shared) (H : Hp) (vs : List V) (Q : VK) (E : XK), Room k (A.deeper (envOfC qual (defScope st) s.heap.objs.size f cdv)) → sp vs H Q E →
      ∃ t, PSs (cxOf CX0 P w K mg base N qual (defScope st) f cdv A outer s H E).nox (defBody st) t ∧ t { nx := fun _ H' => Q .non H', rt := Q } (start N vs) H) : FnOk P w K mg base CX0 (k + 1) f fd ps sp := by
  obtain ⟨oc, od, kV, doc, pm, an, cdv, ct, osl, rfl, lk, hcd⟩ := F.ex
  refine fn_of lk hcd S len fun A outer s H vs Q E hr hsp => ?_
  obtain ⟨t, h, q⟩ := hbody cdv A outer s H vs Q E hr hsp
  exact ⟨t, h.nox, q⟩
/-- how its arguments bind (no defaults): h is «fun _ _ _ _ _ _ us hl => match us, hl with | [_, _], _ => rfl», one _ a parameter -/
theorem Fun.binds {x qual : Str} {st : Stmt} {f : Addr} {fd : FuncData} {ps : List Str} (F : Fun K x qual st f fd)
    (h : ∀ (kV doc pm : Value) (an : Option Addr) (cdv ct : Value) (us : List Value), us.length = ps.length → bindArgs (PySem.W.fnOf x qual (defArgs st) (defBody st) (defScope st) .none kV doc pm an cdv ct) ⟨us, []⟩ = pure (ps.zip us)) : Binds K fd ps [] := by
  obtain ⟨oc, od, kV, doc, pm, an, cdv, ct, osl, rfl, lk, hcd⟩ := F.ex
  exact .all (h kV doc pm an cdv ct)
theorem fun_mk {x qual : Str} {st : Stmt} {f : Addr} {oc : Value} {od an : Option Addr} {osl : Array (Option Value)} {kV doc pm cdv ct : Value} (l : K.lookup f = some ⟨oc, od, .func (PySem.W.fnOf x qual (defArgs st) (defBody st) (defScope st) .none kV doc pm an cdv ct), osl⟩)
    (c : PySem.W.codeIn K cdv qual = true) (k : PySem.W.keepIn K (.ref f) = true) : Fun K x qual st f (PySem.W.fnOf x qual (defArgs st) (defBody st) (defScope st) .none kV doc pm an cdv ct) := ⟨⟨oc, od, kV, doc, pm, an, cdv, ct, osl, rfl, l, c⟩, k⟩
end
theorem hu_of {A : Around} {k : Nat} (hr : Room k A) : A.units + 1 < cLine := Nat.lt_of_le_of_lt (Nat.add_le_add_left (by decide : 1 ≤ 64) _) hr.units

/-! ### expressions in short: the name that stands in the i-th slot -/
section
variable {X : Cx}
theorem pv (i : Nat) {x : Str} {pos : Pos} (hN : X.N[i]? = some x := by rfl) (hv : Vis X.env.scope x := by first | exact Or.inl rfl | exact Or.inr (Or.inl rfl) | exact Or.inr (Or.inr rfl)) (hd : (x == ("__debug__" : Str)) = false := by decide)
    (hcd : (x == ("__classdict__" : Str)) = false := by decide) : PE X (.Name x pos) (tVar i) := pe_var hN hv hd hcd
end

/-! ### tests -/
theorem iteF {A B : Prop} (h : B) : if false = true then A else B := by
  rw [if_neg Bool.false_ne_true]
  exact h
theorem iteT {A B : Prop} (h : A) : if true = true then A else B := by
  rw [if_pos rfl]
  exact h
theorem ite2 {c A B : Prop} [Decidable c] (h1 : c → A) (h2 : ¬ c → B) : if c then A else B := by
  by_cases h : c
  · rw [if_pos h]
    exact h1 h
  · rw [if_neg h]
    exact h2 h

/-! ### heaps -/
/-- all that was tracked is as it was -/
def Same (H H' : Hp) : Prop := ∀ b o, H b = some o → H' b = some o
theorem Same.refl (H : Hp) : Same H H := fun _ _ h => h
theorem Same.trans {H H1 H2 : Hp} (a : Same H H1) (b : Same H1 H2) : Same H H2 := fun c o h => b c o (a c o h)
theorem Same.free {H H' : Hp} (e : Same H H') {l : Addr} (h : H' l = Option.none) : H l = Option.none := by
  cases q : H l with
  | none => rfl
  | some o =>
    rw [e l o q] at h
    cases h
theorem Same.seq {K : PySem.W.Frag} {H H' : Hp} {a : Addr} {xs : List V} (e : Same H H') (h : SqL K H a xs) : SqL K H' a xs := by
  rcases h with (h | ⟨o, h⟩) | h
  · exact .inl (.inl (e _ _ h))
  · exact .inl (.inr ⟨o, e _ _ h⟩)
  · exact .inr h

/-! ### a dict's pairs: keys that differ -/
section
variable {κ : Type} [DecidableEq κ]
theorem valV_in {kvs : List (κ × V)} {k : κ} {v : V} (h : valV kvs k = some v) : k ∈ kvs.map (·.1) := by
  have q : (kvs.any fun kv => decide (kv.1 = k)) = true := by
    rw [valV_any, h]
    all_goals rfl
  obtain ⟨p, hp, e⟩ := List.any_eq_true.mp q
  exact List.mem_map.mpr ⟨p, hp, of_decide_eq_true e⟩
end
/-! ### lists -/
/-- a new instance and its __init__ leave all that was tracked as it was -/
theorem Same.made {H H1 : Hp} {x dx C : Addr} (nx : H x = Option.none) (nd : H dx = Option.none) (k : ∀ b o, (upd (upd H dx (.own x)) x (.ins C dx [])) b = some o → b ≠ x → H1 b = some o) : Same H H1 := fun b o e =>
  k b o (by rw [upd_ne (ne_of_none e nx), upd_ne (ne_of_none e nd)]; exact e) (ne_of_none e nx)
end L2
namespace L2
open PySem PySem.Spec PyProof.Rows

/-! ### the kind of a value, and isinstance -/
/-- the written kinds of things that isinstance is asked of here -/
inductive Ki where
  | non | bl | int | str | lst | tup | dct
  deriving DecidableEq
def KiV (K : PySem.W.Frag) (H : Hp) : V → Ki → Prop
  | .non, k => k = .non
  | .bl _, k => k = .bl
  | .int _, k => k = .int
  | .str _, k => k = .str
  | .ref a, k => (k = .lst ∧ ∃ xs, SqL K H a xs) ∨ (k = .tup ∧ ∃ xs, SqT K H a xs) ∨ (k = .dct ∧ ∃ kvs, Rd H a (.dK kvs))
  | _, _ => False
/-- the classes that are asked for -/
inductive Kc where
  | bl | int | str | lst | tup
  deriving DecidableEq
def Kc.nm : Kc → String
  | .bl => "bool" | .int => "int" | .str => "str" | .lst => "list" | .tup => "tuple"
def isK : Ki → Kc → Bool
  | .bl, .bl => true
  | .bl, .int => true
  | .int, .int => true
  | .str, .str => true
  | .lst, .lst => true
  | .tup, .tup => true
  | _, _ => false

section
variable {X : Cx} {pins : List (Addr × Obj)} {σ : St} {H : Hp} {s : Shared}
theorem Inv.listObj {a : Addr} {xs : List V} (I : Inv X pins σ H s) (h : SqL X.K H a xs) : ∃ o, s.heap.get? a = some o ∧ o.cls = .type "list" := by
  obtain ⟨its, _, ⟨o, n, ho, hc, _, _⟩, _⟩ := I.list h
  exact ⟨o, ho, hc⟩
theorem Inv.tupObj {a : Addr} {xs : List V} (I : Inv X pins σ H s) (h : SqT X.K H a xs) : ∃ o, s.heap.get? a = some o ∧ o.cls = .type "tuple" := by
  obtain ⟨its, _, ⟨o, ho, hc, _, _⟩, _⟩ := I.tuple h
  exact ⟨o, ho, hc⟩
theorem Inv.dctObj {a : Addr} {kvs : List (Key × V)} (I : Inv X pins σ H s) (h : Rd H a (.dK kvs)) : ∃ o, s.heap.get? a = some o ∧ o.cls = .type "dict" := by
  obtain ⟨_, _, vs, _, dd⟩ := dk_rd I.hok h
  exact dd.typeIs
/-- isinstance(x, T) -/
theorem call_isi : CallR X (.builtin "isinstance") (fun xs H Q => ∃ (x : V) (k : Ki) (c : Kc), xs = [x, .ty c.nm] ∧ KiV X.K H x k ∧ Q (.bl (isK k c)) H) := by
  intro pins s σ H xs us Q I r h
  obtain ⟨x, k, c, rfl, hk, q⟩ := h
  obtain ⟨u, u2, rfl, rx, rc⟩ := vals2 r
  obtain rfl : u2 = Value.type c.nm := rc
  have fin : ∀ b t, isK k c = b → EP X pins σ Q (.bool b) { s with toks := t } := fun b t e => ⟨.bl b, H, I.tok _, rfl, by rw [← e]; exact q⟩
  have fin0 : ∀ b, isK k c = b → EP X pins σ Q (.bool b) s := fun b e => ⟨.bl b, H, I, rfl, by rw [← e]; exact q⟩
  cases x with
  | non =>
    obtain rfl : k = .non := hk
    obtain rfl : u = Value.none := rx
    cases c
    · exact IsiPair.NoneType_bool (fin _ _ rfl)
    · exact IsiPair.NoneType_int (fin _ _ rfl)
    · exact IsiPair.NoneType_str (fin _ _ rfl)
    · exact IsiPair.NoneType_list (fin _ _ rfl)
    · exact IsiPair.NoneType_tuple (fin _ _ rfl)
  | bl b =>
    obtain rfl : k = .bl := hk
    obtain rfl : u = Value.bool b := rx
    cases c
    · exact IsiPair.bool_bool (fin0 _ rfl)
    · exact IsiPair.bool_int (fin0 _ rfl)
    · exact IsiPair.bool_str (fin _ _ rfl)
    · exact IsiPair.bool_list (fin _ _ rfl)
    · exact IsiPair.bool_tuple (fin _ _ rfl)
  | int i =>
    obtain rfl : k = .int := hk
    obtain ⟨t, rfl⟩ := rx
    cases c
    · exact IsiPair.int_bool (fin _ _ rfl)
    · exact IsiPair.int_int (fin0 _ rfl)
    · exact IsiPair.int_str (fin _ _ rfl)
    · exact IsiPair.int_list (fin _ _ rfl)
    · exact IsiPair.int_tuple (fin _ _ rfl)
  | str z =>
    obtain rfl : k = .str := hk
    obtain ⟨t, rfl⟩ := rx
    cases c
    · exact IsiPair.str_bool (fin _ _ rfl)
    · exact IsiPair.str_int (fin _ _ rfl)
    · exact IsiPair.str_str (fin0 _ rfl)
    · exact IsiPair.str_list (fin _ _ rfl)
    · exact IsiPair.str_tuple (fin _ _ rfl)
  | ref a =>
    obtain rfl : u = Value.ref a := rx
    rcases hk with ⟨rfl, xs, hx⟩ | ⟨rfl, xs, hx⟩ | ⟨rfl, kvs, hx⟩
    · obtain ⟨o, ho, hc⟩ := I.listObj hx
      cases c
      · exact IsiPair.list_bool ho hc (fin _ _ rfl)
      · exact IsiPair.list_int ho hc (fin _ _ rfl)
      · exact IsiPair.list_str ho hc (fin _ _ rfl)
      · exact IsiPair.list_list ho hc (fin0 _ rfl)
      · exact IsiPair.list_tuple ho hc (fin _ _ rfl)
    · obtain ⟨o, ho, hc⟩ := I.tupObj hx
      cases c
      · exact IsiPair.tuple_bool ho hc (fin _ _ rfl)
      · exact IsiPair.tuple_int ho hc (fin _ _ rfl)
      · exact IsiPair.tuple_str ho hc (fin _ _ rfl)
      · exact IsiPair.tuple_list ho hc (fin _ _ rfl)
      · exact IsiPair.tuple_tuple ho hc (fin0 _ rfl)
    · obtain ⟨o, ho, hc⟩ := I.dctObj hx
      cases c
      · exact IsiPair.dict_bool ho hc (fin _ _ rfl)
      · exact IsiPair.dict_int ho hc (fin _ _ rfl)
      · exact IsiPair.dict_str ho hc (fin _ _ rfl)
      · exact IsiPair.dict_list ho hc (fin _ _ rfl)
      · exact IsiPair.dict_tuple ho hc (fin _ _ rfl)
  | byt _ => exact (show False from hk).elim
  | flt _ => exact (show False from hk).elim
  | ty _ => exact (show False from hk).elim

/-! ### isinstance(x, (tuple, list)) -/
end
end L2
/-! zip over two tuples -/
namespace ZT
open PySem
section
variable {prog : Program} {w : World} {A : Around} {E : Value → Shared → Prop} {s : Shared}
/-- one item of a tuple's iterator, asked by zip -/
theorem nx_item {it t : Addr} {i : Nat} {items : Array Value} {x : Value} {Q : Value → Shared → Prop} (hit : s.heap.IsTupleIter it t i) (ht : s.heap.IsTuple t items) (hx : items[i]? = some x)
    (hQ : ∀ h', h'.IsTupleIter it t (i + 1) → Heap.SameBut it s.heap h' → Q x { s with heap := h' }) : wpAny (model prog w) A (Builtin.SmallTypes.nextOf (.ref it)) Q E s := by
  obtain ⟨o, ho, hc, hd⟩ := id hit; obtain ⟨ol, hol, _, nl, hdl⟩ := ht
  unfold Builtin.SmallTypes.nextOf
  refine wpAny_bind (wpAny_callSpecial?_slot (name := Str.ofString "__next__") hit.typeIs F.slot_tuple_iterator_next (wpAny_call_entry F.slot_tuple_iterator_next hit.typeIs F.entry_tuple_iterator_next ?_ (F.args_tuple_iterator_next_1 _)))
  show wpAny _ _ (field (.ref it) 0 >>= _) _ _ s; refine wpAny_bind (wpAny_field ho hd (x := .ref t) rfl ?_)
  show wpAny _ _ (if (Value.ref t == Value.none) = true then _ else _) _ _ s; rw [if_neg (fun z => Bool.false_ne_true z : ¬ ((Value.ref t == Value.none) = true))]
  show wpAny _ _ (field (.ref it) 1 >>= _) _ _ s; refine wpAny_bind (wpAny_field ho hd (x := .int i 0) rfl ?_)
  show wpAny _ _ (seqItems? (.ref t) >>= _) _ _ s; refine wpAny_bind (wpAny_seqItems hol hdl ?_); simp only [Int.toNat_natCast, hx]
  refine wpAny_bind (wpAny_setField ho hd (by simp) (wpAny_pure ⟨x, rfl, wpAny_pure (hQ _ ⟨_, Heap.get?_update_self _ ho (Obj.isFreed_of_fields (Obj.data_mapFields hd _)), (Obj.cls_mapFields ..).trans hc, ?_⟩ (Heap.SameBut.update ..))⟩))
  rw [Obj.data_mapFields hd]; simp [rawInt]
/-- its end -/
theorem nx_end {it t : Addr} {i : Nat} {items : Array Value} {Q : Value → Shared → Prop} (hh : A.handled = none) (hit : s.heap.IsTupleIter it t i) (ht : s.heap.IsTuple t items) (hx : items[i]? = none)
    (hE : ∀ h' e, Heap.ExtBut it s.heap h' → (∃ o, h'.get? e = some o ∧ o.cls = .type "StopIteration") → E (.ref e) { s with heap := h' }) : wpAny (model prog w) A (Builtin.SmallTypes.nextOf (.ref it)) Q E s := by
  obtain ⟨o, ho, hc, hd⟩ := id hit; obtain ⟨ol, hol, _, nl, hdl⟩ := ht
  unfold Builtin.SmallTypes.nextOf
  refine wpAny_bind (wpAny_callSpecial?_slot (name := Str.ofString "__next__") hit.typeIs F.slot_tuple_iterator_next (wpAny_call_entry F.slot_tuple_iterator_next hit.typeIs F.entry_tuple_iterator_next ?_ (F.args_tuple_iterator_next_1 _)))
  show wpAny _ _ (field (.ref it) 0 >>= _) _ _ s; refine wpAny_bind (wpAny_field ho hd (x := .ref t) rfl ?_)
  show wpAny _ _ (if (Value.ref t == Value.none) = true then _ else _) _ _ s; rw [if_neg (fun z => Bool.false_ne_true z : ¬ ((Value.ref t == Value.none) = true))]
  show wpAny _ _ (field (.ref it) 1 >>= _) _ _ s; refine wpAny_bind (wpAny_field ho hd (x := .int i 0) rfl ?_)
  show wpAny _ _ (seqItems? (.ref t) >>= _) _ _ s; refine wpAny_bind (wpAny_seqItems hol hdl ?_); simp only [Int.toNat_natCast, hx]
  refine wpAny_bind (wpAny_rule (wpAny_bind (wpAny_setField ho hd (by simp) ?_))); show wpAny _ _ (newExc (.type "StopIteration") [] >>= _) _ _ _
  refine wpAny_bind ?_; simp only [newExc, newTuple]; refine wpAny_bind (wpAny_newObj_type ?_ (by size_fits))
  refine wpAny_bind (m := firstArgMember _ _) (wpAny_of_eq (a := Value.none) (by first | rfl | (simp only [firstArgMember]; rfl)) ?_); refine wpAny_newObj_type ?_ (by size_fits)
  simp only [raiseNew]; refine wpAny_bind (wpAny_handled ?_); (first | rw [show A.in1.handled = none from hh] | rw [hh]); refine wpAny_bind (wpAny_pure (wpAny_throw ?_))
  exact hE _ _ (((Heap.SameBut.update ..).extBut.push _).push _) ⟨_, Heap.get?_push_size _ rfl, rfl⟩
theorem item {z TI TO i1 i2 l1 l2 : Addr} {k1 k2 : Nat} {xs ys : Array Value} {x y a b : Value} {Q : Value → Shared → Prop} (D : ZipApart z TI TO i1 i2 l1 l2) (hz : IsZip s.heap z TI TO .none) (hTI : IsPair s.heap TI (.ref i1) (.ref i2)) (hTO : IsPair s.heap TO a b)
    (h1 : s.heap.IsTupleIter i1 l1 k1) (h2 : s.heap.IsTupleIter i2 l2 k2) (hl1 : s.heap.IsTuple l1 xs) (hl2 : s.heap.IsTuple l2 ys) (hx : xs[k1]? = some x) (hy : ys[k2]? = some y)
    (hQ : ∀ h', IsZip h' z TI TO (rawInt s.heap.objs.size) → IsPair h' TO x y → h'.IsTupleIter i1 l1 (k1 + 1) → h'.IsTupleIter i2 l2 (k2 + 1) → IsPair h' s.heap.objs.size x y → h'.objs.size = s.heap.objs.size + 1 →
      (∀ c o, c ≠ z → c ≠ TO → c ≠ i1 → c ≠ i2 → s.heap.get? c = some o → h'.get? c = some o) → Q (.ref s.heap.objs.size) { s with heap := h' }) :
    wpAny (model prog w) A (Builtin.«zip.__next__» ⟨[.ref z], []⟩) (fun fin s' => ∃ v, fin = .done (.ret v) ∧ Q v s') E s := by
  show wpAny _ _ (field (.ref z) 2 >>= _) _ _ _; refine wpAny_bind (wpAny_field hz rfl (x := .bool false) rfl ?_)
  show wpAny _ _ (field (.ref z) 3 >>= _) _ _ _; refine wpAny_bind (wpAny_field hz rfl (x := .ref TI) rfl (wpAny_bind (wpAny_seqItems hTI rfl ?_)))
  show wpAny _ _ (Builtin.SmallTypes.ownedTupleIsFree (.ref z) >>= _) _ _ _; refine wpAny_bind ?_; unfold Builtin.SmallTypes.ownedTupleIsFree
  refine wpAny_bind (wpAny_field hz rfl (x := .none) rfl (wpAny_pure ?_)); simp only [if_true]
  refine wpAny_bind (wpAny_rule (wpAny_bind (wpAny_field hz rfl (x := .ref TO) rfl (wpAny_bind (wpAny_setField_rec hz (by simp) fun ha za sa => ?_)))))
  replace za : IsZip ha z TI TO .ellipsis := za
  refine wpAny_bind ?_; simp only [List.zipIdx_cons, List.zipIdx_nil, List.forIn_cons, List.forIn_nil]
  refine wpAny_bind (wpAny_bind (wpAny_onRaise ?_)); show wpAny _ _ (Builtin.SmallTypes.nextOf (.ref i1) >>= _) _ _ _
  refine wpAny_bind (nx_item (h1.extBut sa.extBut D.i1z) (hl1.extBut sa.extBut D.l1z) hx fun hb ib sb => wpAny_pure ?_)
  have tb : IsPair hb TO a b := sb.extBut _ _ D.TOi1 (sa.extBut _ _ D.TOz hTO)
  refine wpAny_bind (wpAny_seqItems tb rfl (wpAny_bind (wpAny_updateSeq_pair tb fun hc tc sc => ?_))); replace tc : IsPair hc TO x b := tc
  refine wpAny_bind (wpAny_letGo (wpAny_pure ?_))
  refine wpAny_bind (wpAny_bind (wpAny_onRaise ?_)); show wpAny _ _ (Builtin.SmallTypes.nextOf (.ref i2) >>= _) _ _ _
  refine wpAny_bind (nx_item (((h2.extBut sa.extBut D.i2z).extBut sb.extBut D.i12.symm).extBut sc.extBut D.TOi2.symm) (((hl2.extBut sa.extBut D.l2z).extBut sb.extBut D.l2i1).extBut sc.extBut D.l2TO) hy fun hd id' sd => wpAny_pure ?_)
  have td : IsPair hd TO x b := sd.extBut _ _ D.TOi2 tc
  refine wpAny_bind (wpAny_seqItems td rfl (wpAny_bind (wpAny_updateSeq_pair td fun he te se => ?_))); replace te : IsPair he TO x y := te
  refine wpAny_bind (wpAny_letGo (wpAny_pure (wpAny_pure ?_)))
  refine wpAny_bind (wpAny_seqItems te rfl (wpAny_bind (wpAny_newTuple ?_)))
  have hsz : he.objs.size = s.heap.objs.size := by rw [se.1, sd.1, sc.1, sb.1, sa.1]
  have ze : IsZip he z TI TO .ellipsis := se.extBut _ _ D.TOz.symm (sd.extBut _ _ D.i2z.symm (sc.extBut _ _ D.TOz.symm (sb.extBut _ _ D.i1z.symm za)))
  have ke : ∀ c o, c ≠ z → c ≠ TO → c ≠ i1 → c ≠ i2 → s.heap.get? c = some o → he.get? c = some o := fun c o q1 q2 q3 q4 e => se.extBut _ _ q2 (sd.extBut _ _ q4 (sc.extBut _ _ q2 (sb.extBut _ _ q3 (sa.extBut _ _ q1 e))))
  have ie1 : he.IsTupleIter i1 l1 (k1 + 1) := ((ib.extBut sc.extBut D.TOi1.symm).extBut sd.extBut D.i12).extBut se.extBut D.TOi1.symm
  have ie2 : he.IsTupleIter i2 l2 (k2 + 1) := id'.extBut se.extBut D.TOi2.symm
  have hzlt : z < he.objs.size := Heap.lt_size ze
  show wpAny _ _ (Builtin.SmallTypes.ownedTupleHandOut (.ref z) (.ref he.objs.size) >>= _) _ _ _; refine wpAny_bind ?_; unfold Builtin.SmallTypes.ownedTupleHandOut
  have zf : IsZip (he.push { cls := .type "tuple", data := .seq #[x, y] }) z TI TO .ellipsis := Heap.get?_push_of_some _ ze
  refine wpAny_bind (wpAny_setField_rec zf (by simp) fun hg zg sg => ?_); replace zg : IsZip hg z TI TO (rawInt he.objs.size) := zg
  refine wpAny_setField_rec zg (by simp) fun hi zi si => ?_; replace zi : IsZip hi z TI TO (rawInt he.objs.size) := zi
  have up : ∀ c o, c ≠ z → he.get? c = some o → hi.get? c = some o := fun c o q1 e => si.extBut _ _ q1 (sg.extBut _ _ q1 (Heap.get?_push_of_some _ e))
  have ti : IsPair hi he.objs.size x y := si.extBut _ _ (Nat.ne_of_gt hzlt) (sg.extBut _ _ (Nat.ne_of_gt hzlt) (Heap.get?_push_size _ rfl))
  have zz : hi.objs.size = he.objs.size + 1 := by rw [si.1, sg.1, Heap.size_push]
  rw [hsz] at zi ti zz
  refine wpAny_pure ⟨_, rfl, ?_⟩; show Q (.ref he.objs.size) _; rw [hsz]
  exact hQ hi zi (up _ _ D.TOz te) (let ⟨o, e, r⟩ := ie1; ⟨o, up _ o D.i1z e, r⟩) (let ⟨o, e, r⟩ := ie2; ⟨o, up _ o D.i2z e, r⟩) ti zz fun c o q1 q2 q3 q4 e => up c o q1 (ke c o q1 q2 q3 q4 e)
theorem fin {z TI TO i1 i2 l1 l2 : Addr} {k1 k2 : Nat} {xs ys : Array Value} {a b : Value} {Q : Fin → Shared → Prop} (hh : A.handled = none) (D : ZipApart z TI TO i1 i2 l1 l2) (hz : IsZip s.heap z TI TO .none) (hTI : IsPair s.heap TI (.ref i1) (.ref i2)) (hTO : IsPair s.heap TO a b)
    (h1 : s.heap.IsTupleIter i1 l1 k1) (h2 : s.heap.IsTupleIter i2 l2 k2) (hl1 : s.heap.IsTuple l1 xs) (hl2 : s.heap.IsTuple l2 ys) (hend : xs[k1]? = none ∨ ys[k2]? = none)
    (hE : ∀ h' e, (∀ c o, c ≠ z → c ≠ TO → c ≠ i1 → c ≠ i2 → s.heap.get? c = some o → h'.get? c = some o) → (∃ o, h'.get? e = some o ∧ o.cls = .type "StopIteration") → E (.ref e) { s with heap := h' }) :
    wpAny (model prog w) A (Builtin.«zip.__next__» ⟨[.ref z], []⟩) Q E s := by
  show wpAny _ _ (field (.ref z) 2 >>= _) _ _ _; refine wpAny_bind (wpAny_field hz rfl (x := .bool false) rfl ?_)
  show wpAny _ _ (field (.ref z) 3 >>= _) _ _ _; refine wpAny_bind (wpAny_field hz rfl (x := .ref TI) rfl (wpAny_bind (wpAny_seqItems hTI rfl ?_)))
  show wpAny _ _ (Builtin.SmallTypes.ownedTupleIsFree (.ref z) >>= _) _ _ _; refine wpAny_bind ?_; unfold Builtin.SmallTypes.ownedTupleIsFree
  refine wpAny_bind (wpAny_field hz rfl (x := .none) rfl (wpAny_pure ?_)); simp only [if_true]
  refine wpAny_bind (wpAny_rule (wpAny_bind (wpAny_field hz rfl (x := .ref TO) rfl (wpAny_bind (wpAny_setField_rec hz (by simp) fun ha za sa => ?_)))))
  replace za : IsZip ha z TI TO .ellipsis := za
  refine wpAny_bind ?_; simp only [List.zipIdx_cons, List.zipIdx_nil, List.forIn_cons, List.forIn_nil]
  refine wpAny_bind (wpAny_bind (wpAny_onRaise ?_)); show wpAny _ _ (Builtin.SmallTypes.nextOf (.ref i1) >>= _) _ _ _
  cases hx : xs[k1]? with
  | none =>
    refine wpAny_bind (nx_end hh (h1.extBut sa.extBut D.i1z) (hl1.extBut sa.extBut D.l1z) hx fun hb e sb he => ?_)
    obtain ⟨oe, hoe, hce⟩ := he
    have zb : IsZip hb z TI TO .ellipsis := sb _ _ D.i1z.symm za
    have hez : e ≠ z := fun q => by subst q; rw [zb] at hoe; cases hoe; simp at hce
    exact wpAny_setField_rec zb (by simp) fun hc _ sc => hE hc e (fun c o q1 _ q3 _ q => sc.extBut _ _ q1 (sb _ _ q3 (sa.extBut _ _ q1 q))) ⟨oe, sc.extBut _ _ hez hoe, hce⟩
  | some x =>
    have hy : ys[k2]? = none := hend.resolve_left (fun q => by rw [hx] at q; cases q)
    refine wpAny_bind (nx_item (h1.extBut sa.extBut D.i1z) (hl1.extBut sa.extBut D.l1z) hx fun hb ib sb => wpAny_pure ?_)
    have tb : IsPair hb TO a b := sb.extBut _ _ D.TOi1 (sa.extBut _ _ D.TOz hTO)
    refine wpAny_bind (wpAny_seqItems tb rfl (wpAny_bind (wpAny_updateSeq_pair tb fun hc tc sc => wpAny_bind (wpAny_letGo (wpAny_pure ?_)))))
    refine wpAny_bind (wpAny_bind (wpAny_onRaise ?_)); show wpAny _ _ (Builtin.SmallTypes.nextOf (.ref i2) >>= _) _ _ _
    refine wpAny_bind (nx_end hh (((h2.extBut sa.extBut D.i2z).extBut sb.extBut D.i12.symm).extBut sc.extBut D.TOi2.symm) (((hl2.extBut sa.extBut D.l2z).extBut sb.extBut D.l2i1).extBut sc.extBut D.l2TO) hy fun hd e sd he => ?_)
    obtain ⟨oe, hoe, hce⟩ := he
    have zd : IsZip hd z TI TO .ellipsis := sd _ _ D.i2z.symm (sc.extBut _ _ D.TOz.symm (sb.extBut _ _ D.i1z.symm za))
    have hez : e ≠ z := fun q => by subst q; rw [zd] at hoe; cases hoe; simp at hce
    exact wpAny_setField_rec zd (by simp) fun hf _ sf => hE hf e (fun c o q1 q2 q3 q4 q => sf.extBut _ _ q1 (sd _ _ q4 (sc.extBut _ _ q2 (sb.extBut _ _ q3 (sa.extBut _ _ q1 q))))) ⟨oe, sf.extBut _ _ hez hoe, hce⟩
theorem py_item {z TI TO i1 i2 l1 l2 : Addr} {k1 k2 : Nat} {xs ys : Array Value} {x y a b : Value} {Q : Option Value → Shared → Prop} (D : ZipApart z TI TO i1 i2 l1 l2) (hz : IsZip s.heap z TI TO .none) (hTI : IsPair s.heap TI (.ref i1) (.ref i2)) (hTO : IsPair s.heap TO a b)
    (h1 : s.heap.IsTupleIter i1 l1 k1) (h2 : s.heap.IsTupleIter i2 l2 k2) (hl1 : s.heap.IsTuple l1 xs) (hl2 : s.heap.IsTuple l2 ys) (hx : xs[k1]? = some x) (hy : ys[k2]? = some y)
    (hQ : ∀ h', IsZip h' z TI TO (rawInt s.heap.objs.size) → IsPair h' TO x y → h'.IsTupleIter i1 l1 (k1 + 1) → h'.IsTupleIter i2 l2 (k2 + 1) → IsPair h' s.heap.objs.size x y → h'.objs.size = s.heap.objs.size + 1 →
      (∀ c o, c ≠ z → c ≠ TO → c ≠ i1 → c ≠ i2 → s.heap.get? c = some o → h'.get? c = some o) → Q (some (.ref s.heap.objs.size)) { s with heap := h' }) : wpAny (model prog w) A (pyNext (.ref z)) Q E s := by
  have hT : s.TypeIs (.ref z) "zip" := ⟨_, hz, rfl⟩
  unfold pyNext
  exact wpAny_bind (wpAny_attempt (wpAny_callSpecial?_slot (name := Str.ofString "__next__") hT F.slot_zip_next (wpAny_call_entry F.slot_zip_next hT F.entry_zip_next
    (item D hz hTI hTO h1 h2 hl1 hl2 hx hy fun h' a1 a2 a3 a4 a5 a6 a7 => wpAny_pure (hQ h' a1 a2 a3 a4 a5 a6 a7)) (F.args_zip_next_1 _))))
theorem py_end {z TI TO i1 i2 l1 l2 : Addr} {k1 k2 : Nat} {xs ys : Array Value} {a b : Value} {Q : Option Value → Shared → Prop} (hh : A.handled = none) (D : ZipApart z TI TO i1 i2 l1 l2) (hz : IsZip s.heap z TI TO .none) (hTI : IsPair s.heap TI (.ref i1) (.ref i2)) (hTO : IsPair s.heap TO a b)
    (h1 : s.heap.IsTupleIter i1 l1 k1) (h2 : s.heap.IsTupleIter i2 l2 k2) (hl1 : s.heap.IsTuple l1 xs) (hl2 : s.heap.IsTuple l2 ys) (hend : xs[k1]? = none ∨ ys[k2]? = none)
    (hQ : ∀ h', (∀ c o, c ≠ z → c ≠ TO → c ≠ i1 → c ≠ i2 → s.heap.get? c = some o → h'.get? c = some o) → Q none { s with heap := h' }) : wpAny (model prog w) A (pyNext (.ref z)) Q E s := by
  have hT : s.TypeIs (.ref z) "zip" := ⟨_, hz, rfl⟩
  unfold pyNext
  refine wpAny_bind (wpAny_attempt (wpAny_callSpecial?_slot (name := Str.ofString "__next__") hT F.slot_zip_next (wpAny_call_entry F.slot_zip_next hT F.entry_zip_next (fin hh D hz hTI hTO h1 h2 hl1 hl2 hend fun h' e hk he => ?_) (F.args_zip_next_1 _))))
  obtain ⟨o, ho, hc⟩ := he
  exact wpAny_bind (wpAny_isInstance (T := "StopIteration") (b := true) ⟨o, ho, hc⟩ isSubtype_stop (wpAny_pure (hQ _ hk)))
end
abbrev z1 (h : Heap) (l1 : Addr) : Heap := h.push { cls := .type "tuple_iterator", data := .fields #[.ref l1, .int 0 0] }
abbrev z2 (h : Heap) (l1 l2 : Addr) : Heap := (z1 h l1).push { cls := .type "tuple_iterator", data := .fields #[.ref l2, .int 0 0] }
abbrev z3 (h : Heap) (l1 l2 : Addr) : Heap := (z2 h l1 l2).push { cls := .type "tuple", data := .seq #[.ref h.objs.size, .ref (z1 h l1).objs.size] }
abbrev z4 (h : Heap) (l1 l2 : Addr) : Heap := (z3 h l1 l2).push { cls := .type "tuple", data := .seq #[.none, .none] }
abbrev z5 (h : Heap) (l1 l2 : Addr) : Heap := (z4 h l1 l2).push { cls := .type "zip", data := .fields #[.none, .bool false, .bool false, .ref (z2 h l1 l2).objs.size, .ref (z3 h l1 l2).objs.size] }
end ZT
namespace ZT
open PySem
theorem made (l1 l2 : Addr) (xs ys : Array Value) :
    Meets (Builtin.«zip.__new__» ⟨[.type "zip", .ref l1, .ref l2], []⟩) (fun _ R s => s.heap.IsTuple l1 xs ∧ s.heap.IsTuple l2 ys ∧ R (.ok (.ret (.ref (z4 s.heap l1 l2).objs.size))) { s with heap := z5 s.heap l1 l2 }) :=
  .of_wp fun prog w A R s h => by
    obtain ⟨hp, g, d, tk, os⟩ := s; obtain ⟨ht1, ht2, h⟩ := h
    have hsub := sub_zip
    have hL1 : Heap.IsTuple (Shared.heap ⟨hp, g, d, tk, os⟩) l1 xs := ht1
    have hL2 : Heap.IsTuple (Shared.heap ⟨hp.push { cls := .type "tuple_iterator", data := .fields #[.ref l1, .int 0 0] }, g, d, tk, os⟩) l2 ys := Heap.IsTuple.push ht2 _
    wp_walk using wpAny_pyIter_tuple hL1, wpAny_pyIter_tuple hL2
    exact ⟨_, rfl, h⟩
section
variable {prog : Program} {w : World} {A : Around} {E : Value → Shared → Prop} {s : Shared}
theorem call2 {l1 l2 : Addr} {xs ys : Array Value} {Q : Value → Shared → Prop} (hl1 : s.heap.IsTuple l1 xs) (hl2 : s.heap.IsTuple l2 ys)
    (h : ∀ h', IsZip h' (s.heap.objs.size + 4) (s.heap.objs.size + 2) (s.heap.objs.size + 3) .none → IsPair h' (s.heap.objs.size + 2) (.ref s.heap.objs.size) (.ref (s.heap.objs.size + 1)) → IsPair h' (s.heap.objs.size + 3) .none .none →
      h'.IsTupleIter s.heap.objs.size l1 0 → h'.IsTupleIter (s.heap.objs.size + 1) l2 0 → (∀ c o, s.heap.get? c = some o → h'.get? c = some o) → Q (.ref (s.heap.objs.size + 4)) { s with heap := h' }) :
    wpAny (model prog w) A (call (.type "zip") [.ref l1, .ref l2]) Q E s := by
  refine callType_new F.called_zip (by decide) (F.typeCall_zip_2 _ _) (F.newCall_zip_2 _ _) (fun obj => F.args_object_init_3 obj _ _) F.entry_zip_new (made l1 l2 xs ys) ⟨hl1, hl2, ?_⟩
  have e1 : (z1 s.heap l1).objs.size = s.heap.objs.size + 1 := Heap.size_push ..
  have e2 : (z2 s.heap l1 l2).objs.size = s.heap.objs.size + 2 := by rw [Heap.size_push, e1]
  have e3 : (z3 s.heap l1 l2).objs.size = s.heap.objs.size + 3 := by rw [Heap.size_push, e2]
  have e4 : (z4 s.heap l1 l2).objs.size = s.heap.objs.size + 4 := by rw [Heap.size_push, e3]
  have g5 : (z5 s.heap l1 l2).get? (z4 s.heap l1 l2).objs.size = some _ := Heap.get?_push_size _ rfl
  have g4 : (z5 s.heap l1 l2).get? (z3 s.heap l1 l2).objs.size = some _ := Heap.get?_push_of_some _ (Heap.get?_push_size _ rfl)
  have g3 : (z5 s.heap l1 l2).get? (z2 s.heap l1 l2).objs.size = some _ := Heap.get?_push_of_some _ (Heap.get?_push_of_some _ (Heap.get?_push_size _ rfl))
  have g2 : (z5 s.heap l1 l2).get? (z1 s.heap l1).objs.size = some _ := Heap.get?_push_of_some _ (Heap.get?_push_of_some _ (Heap.get?_push_of_some _ (Heap.get?_push_size _ rfl)))
  have g1 : (z5 s.heap l1 l2).get? s.heap.objs.size = some _ := Heap.get?_push_of_some _ (Heap.get?_push_of_some _ (Heap.get?_push_of_some _ (Heap.get?_push_of_some _ (Heap.get?_push_size _ rfl))))
  show _ ∧ _
  rw [e2, e3, e4] at g5; rw [e1, e2] at g3; rw [e3] at g4; rw [e1] at g2; rw [e4]
  exact ⟨⟨_, g5, rfl⟩, h _ g5 g3 g4 ⟨_, g1, rfl, rfl⟩ ⟨_, g2, rfl, rfl⟩ fun c o x => Heap.get?_push_of_some _ (Heap.get?_push_of_some _ (Heap.get?_push_of_some _ (Heap.get?_push_of_some _ (Heap.get?_push_of_some _ x))))⟩
end
end ZT
namespace L2
open PySem PySem.Spec PyProof.Rows
/-- the tuples at a and b, the items in new pairs -/
def Itzt (K : PySem.W.Frag) (a b : Addr) : It :=
  ⟨fun i H => ∃ (xs ys : List V) (x y : V), SqT K H a xs ∧ SqT K H b ys ∧ xs[i]? = some x ∧ ys[i]? = some y,
    fun i H v H' => ∃ T x y, v = .ref T ∧ H T = none ∧ H' = upd H T (.tup [x, y]) ∧ (∀ xs, SqT K H a xs → xs[i]? = some x) ∧ ∀ ys, SqT K H b ys → ys[i]? = some y,
    fun i H => ∃ xs ys : List V, SqT K H a xs ∧ SqT K H b ys ∧ (xs.length ≤ i ∨ ys.length ≤ i)⟩
theorem turn_zipT {P : Program} {w : World} {K : PySem.W.Frag} {elts : List Expr} {kk : Nat} {tpos : Pos} {a b z TI TO i1 i2 : Addr} (D : ZipApart z TI TO i1 i2 a b) :
    Turn P w K (.Tuple elts kk tpos) (Itzt K a b) [z, TI, TO, i1, i2] z (fun i h => IsZip h z TI TO .none ∧ IsPair h TI (.ref i1) (.ref i2) ∧ (∃ x y, IsPair h TO x y) ∧ h.IsTupleIter i1 a i ∧ h.IsTupleIter i2 b i) where
  mem := by simp
  obj := fun i h st c hc => by
    obtain ⟨hz, hTI, ⟨x, y, hTO⟩, ⟨o1, e1, _, d1⟩, ⟨o2, e2, _, d2⟩⟩ := st
    have e' : c = z ∨ c = TI ∨ c = TO ∨ c = i1 ∨ c = i2 := by simpa using hc
    rcases e' with rfl | rfl | rfl | rfl | rfl
    · exact ⟨_, hz, fun v q => nomatch q⟩
    · exact ⟨_, hTI, fun v q => nomatch q⟩
    · exact ⟨_, hTO, fun v q => nomatch q⟩
    · exact ⟨o1, e1, fun v q => by rw [d1] at q; cases q⟩
    · exact ⟨o2, e2, fun v q => by rw [d2] at q; cases q⟩
  keep := fun i h h' st k => by
    obtain ⟨hz, hTI, ⟨x, y, hTO⟩, ⟨o1, e1, r1⟩, ⟨o2, e2, r2⟩⟩ := st
    exact ⟨k z (by simp) _ hz, k TI (by simp) _ hTI, ⟨x, y, k TO (by simp) _ hTO⟩, ⟨o1, k i1 (by simp) _ e1, r1⟩, ⟨o2, k i2 (by simp) _ e2, r2⟩⟩
  item := by
    intro X hP hw hK hc i pins s σ H E I hf st hg
    subst hP hw hK
    obtain ⟨hz, hTI, ⟨x0, y0, hTO⟩, h1, h2⟩ := st
    obtain ⟨xs, ys, x, y, hqx, hqy, hx, hy⟩ := hg
    obtain ⟨its, rv, p, _⟩ := I.tuple hqx
    obtain ⟨its2, rv2, p2, _⟩ := I.tuple hqy
    obtain ⟨u, hu, ru⟩ := rv.get hx
    obtain ⟨u2, hu2, ru2⟩ := rv2.get hy
    have hzl : z < s.heap.objs.size := Heap.lt_size hz
    refine ZT.py_item D hz hTI hTO h1 h2 p p2 (x := u) (y := u2) (by simpa using hu) (by simpa using hu2) fun h' z' TO' h1' h2' hT hsz hk => ?_
    refine ⟨_, rfl, wpAny_letOwnedTupleGo_zip (s := { s with heap := h' }) z' fun h'' z'' sb => ?_⟩
    have hT2 : h''.get? s.heap.objs.size = some { cls := .type "tuple", data := .seq #[u, u2] } := (sb.2 _ (Nat.ne_of_gt hzl)).trans hT
    have new : ObjOk X.prog X.w (upd H s.heap.objs.size (.tup [x, y])) h'' s.heap.objs.size (.tup [x, y]) := ⟨by show 2 ≤ sizeLine; decide, [u, u2], .cons ru (.cons ru2 .nil), ⟨_, hT2, rfl, _, rfl⟩, _, hT2, rfl⟩
    have I1 : Inv X pins σ (upd H s.heap.objs.size (.tup [x, y])) { s with heap := h'' } :=
      I.turnedNew (t' := s.toks) (ch := [z, TI, TO, i1, i2]) (fun c o hb q => (sb.2 c (fun q' => hb (by simp [q']))).trans (hk c o (fun q' => hb (by simp [q'])) (fun q' => hb (by simp [q'])) (fun q' => hb (by simp [q'])) (fun q' => hb (by simp [q'])) q)) hf (Nat.le_refl _) new
    refine ⟨.ref s.heap.objs.size, _, I1, rfl, ⟨_, x, y, rfl, I.hok.fresh (Nat.le_refl _), rfl, fun l hl => by rw [I.tuple_inj hl hqx]; exact hx, fun l hl => by rw [I.tuple_inj hl hqy]; exact hy⟩, ⟨z'', ?_, ⟨u, u2, ?_⟩, ?_, ?_⟩, fun c hcm => ?_⟩
    · exact (sb.2 _ D.TIz).trans (hk _ _ D.TIz D.TITO D.TIi1 D.TIi2 hTI)
    · exact (sb.2 _ D.TOz).trans TO'
    · obtain ⟨o, e, r⟩ := h1'; exact ⟨o, (sb.2 _ D.i1z).trans e, r⟩
    · obtain ⟨o, e, r⟩ := h2'; exact ⟨o, (sb.2 _ D.i2z).trans e, r⟩
    · have hlt : c < s.heap.objs.size := by
        have e' : c = z ∨ c = TI ∨ c = TO ∨ c = i1 ∨ c = i2 := by simpa using hcm
        rcases e' with rfl | rfl | rfl | rfl | rfl
        · exact hzl
        · exact Heap.lt_size hTI
        · exact Heap.lt_size hTO
        · obtain ⟨_, e1, _⟩ := h1; exact Heap.lt_size e1
        · obtain ⟨_, e2, _⟩ := h2; exact Heap.lt_size e2
      rw [upd_ne (Nat.ne_of_lt hlt)]
      exact (hf c hcm).1
  done := by
    intro X hP hw hK hc i pins s σ H E I hf st hg
    subst hP hw hK
    obtain ⟨hz, hTI, ⟨x0, y0, hTO⟩, h1, h2⟩ := st
    obtain ⟨xs, ys, hqx, hqy, hend⟩ := hg
    obtain ⟨its, rv, p, _⟩ := I.tuple hqx
    obtain ⟨its2, rv2, p2, _⟩ := I.tuple hqy
    have l1 := rv.length
    have l2 := rv2.length
    have he : its.toArray[i]? = none ∨ its2.toArray[i]? = none := hend.imp (fun q => by simp; omega) (fun q => by simp; omega)
    exact ZT.py_end (I.ok.hd hc) D hz hTI hTO h1 h2 p p2 he fun h' hk => ⟨rfl, I.turnedL (t' := s.toks) (ch := [z, TI, TO, i1, i2]) (fun c o hb q =>
      hk c o (fun q' => hb (by simp [q'])) (fun q' => hb (by simp [q'])) (fun q' => hb (by simp [q'])) (fun q' => hb (by simp [q'])) q) hf⟩
  self := fun A i s Q E st h => wpAny_pyIter_zip st.1 h
/-- zip of two lists, or of two tuples -/
def iZipS (K : PySem.W.Frag) (ta : TA) : TI := fun σ H R => ta σ H fun vs H1 => ∃ a b xs ys, vs = [.ref a, .ref b] ∧ ((SqL K H1 a xs ∧ SqL K H1 b ys ∧ R (Itz K a b) H1) ∨ (SqT K H1 a xs ∧ SqT K H1 b ys ∧ R (Itzt K a b) H1))
theorem pi_zipS {X : Cx} {e e2 : Expr} {ta : TA} {p pos tpos : Pos} {elts : List Expr} {kk : Nat} (hg : Gl X "zip") (hm : X.mg "zip" = none) (ha : PA X [e, e2] ta)
    (hs : starEach [e, e2] X.env = (false, eval e X.env) :: starEach [e2] X.env := by rfl) (hpl : (backTo pos (starEach [e2] X.env)).any (·.1) = false := by rfl) :
    PI X (.Tuple elts kk tpos) (.Call (.Name "zip" p) [e, e2] [] pos) (iZipS X.K ta) := by
  intro pins s σ H R I h
  refine Call_ (ld_blt I hg hm boot_zip5 (PyProof.Rows.callWith_type1 (thn (ha pos pins s σ H _ I h) fun us s1 ⟨vs, H1, I1, r1, q1⟩ => ?_) hs hpl))
  obtain ⟨a, b, xs, ys, ex, q1⟩ := q1
  subst ex
  obtain ⟨u, u2, rfl, rx, ry⟩ := vals2 r1
  obtain rfl : u = Value.ref a := rx
  obtain rfl : u2 = Value.ref b := ry
  have fresh : ∀ c ∈ [s1.heap.objs.size + 4, s1.heap.objs.size + 2, s1.heap.objs.size + 3, s1.heap.objs.size, s1.heap.objs.size + 1], FpOk X pins H1 c := fun c hcm => by
    have hle : s1.heap.objs.size ≤ c := by
      have e' : c = s1.heap.objs.size + 4 ∨ c = s1.heap.objs.size + 2 ∨ c = s1.heap.objs.size + 3 ∨ c = s1.heap.objs.size ∨ c = s1.heap.objs.size + 1 := by simpa using hcm
      omega
    exact I1.fpOk hle (I1.hok.fresh hle)
  rcases q1 with ⟨hqx, hqy, q⟩ | ⟨hqx, hqy, q⟩
  · obtain ⟨its, rv, p1, _⟩ := I1.list hqx
    obtain ⟨its2, rv2, p2, _⟩ := I1.list hqy
    refine call_zip_2 p1.isList p2.isList fun h' hz hTI hTO h1 h2 hsz hk => wpAny_pyIter_zip hz ?_
    exact ⟨s1.heap.objs.size + 4, [s1.heap.objs.size + 4, s1.heap.objs.size + 2, s1.heap.objs.size + 3, s1.heap.objs.size, s1.heap.objs.size + 1], _, _, H1, rfl, I1.kept (t' := s1.toks) hk, turn_zip (PySem.W.ktu_apart s1.heap.objs.size a b p1.lt p2.lt), ⟨hz, hTI, ⟨_, _, hTO⟩, h1, h2⟩, fresh, q⟩
  · obtain ⟨its, rv, p1, _⟩ := I1.tuple hqx
    obtain ⟨its2, rv2, p2, _⟩ := I1.tuple hqy
    have la : a < s1.heap.objs.size := by obtain ⟨o, e, _⟩ := id p1; exact Heap.lt_size e
    have lb : b < s1.heap.objs.size := by obtain ⟨o, e, _⟩ := id p2; exact Heap.lt_size e
    refine ZT.call2 p1 p2 fun h' hz hTI hTO h1 h2 hk => wpAny_pyIter_zip hz ?_
    exact ⟨s1.heap.objs.size + 4, [s1.heap.objs.size + 4, s1.heap.objs.size + 2, s1.heap.objs.size + 3, s1.heap.objs.size, s1.heap.objs.size + 1], _, _, H1, rfl, I1.kept (t' := s1.toks) hk, turn_zipT (PySem.W.ktu_apart s1.heap.objs.size a b la lb), ⟨hz, hTI, ⟨_, _, hTO⟩, h1, h2⟩, fresh, q⟩
end L2
namespace L2
open PySem PySem.Spec PyProof.Rows
/-! ### data at any depth, dicts among them -/
def keyD : Key → PyData
  | .inl i => .int i
  | .inr x => .str x
mutual
inductive Dq (K : PySem.W.Frag) (H : Hp) : V → PyData → Prop
  | non : Dq K H .non .none
  | bl (b : Bool) : Dq K H (.bl b) (.bool b)
  | int (i : Int) : Dq K H (.int i) (.int i)
  | str (x : Str) : Dq K H (.str x) (.str x)
  | lst {a : Addr} {xs : List V} {ds : List PyData} : SqL K H a xs → a ≠ sysModules ∧ xs.length ≤ 10000 → DqAll K H xs ds → Dq K H (.ref a) (.list ds)
  | tup {a : Addr} {xs : List V} {ds : List PyData} : SqT K H a xs → xs.length ≤ 10000 → DqAll K H xs ds → Dq K H (.ref a) (.tuple ds)
  | dct {a : Addr} {kvs : List (Key × V)} {ps : List (PyData × PyData)} : Rd H a (.dK kvs) → DqKv K H kvs ps → Dq K H (.ref a) (.dict ps)
inductive DqAll (K : PySem.W.Frag) (H : Hp) : List V → List PyData → Prop
  | nil : DqAll K H [] []
  | cons {v : V} {vs : List V} {d : PyData} {ds : List PyData} : Dq K H v d → DqAll K H vs ds → DqAll K H (v :: vs) (d :: ds)
inductive DqKv (K : PySem.W.Frag) (H : Hp) : List (Key × V) → List (PyData × PyData) → Prop
  | nil : DqKv K H [] []
  | cons {k : Key} {v : V} {kvs : List (Key × V)} {d : PyData} {ps : List (PyData × PyData)} : Dq K H v d → DqKv K H kvs ps → DqKv K H ((k, v) :: kvs) ((keyD k, d) :: ps)
end
theorem Rd.same {H H' : Hp} {a : Addr} {u : HO} (s : Same H H') (h : Rd H a u) : Rd H' a u := h.imp (s _ _) fun ⟨o, e⟩ => ⟨o, s _ _ e⟩
theorem SqL.same {K : PySem.W.Frag} {H H' : Hp} {a : Addr} {xs : List V} (s : Same H H') (h : SqL K H a xs) : SqL K H' a xs := h.imp (Rd.same s) id
theorem SqT.same {K : PySem.W.Frag} {H H' : Hp} {a : Addr} {xs : List V} (s : Same H H') (h : SqT K H a xs) : SqT K H' a xs := h.imp (Rd.same s) id
mutual
theorem Dq.same {K : PySem.W.Frag} {H H' : Hp} (s : Same H H') : ∀ {v : V} {d : PyData}, Dq K H v d → Dq K H' v d
  | _, _, .non => .non
  | _, _, .bl b => .bl b
  | _, _, .int i => .int i
  | _, _, .str x => .str x
  | _, _, .lst h n a => .lst (h.same s) n (DqAll.same s a)
  | _, _, .tup h n a => .tup (h.same s) n (DqAll.same s a)
  | _, _, .dct h a => .dct (h.same s) (DqKv.same s a)
theorem DqAll.same {K : PySem.W.Frag} {H H' : Hp} (s : Same H H') : ∀ {vs : List V} {ds : List PyData}, DqAll K H vs ds → DqAll K H' vs ds
  | _, _, .nil => .nil
  | _, _, .cons h t => .cons (Dq.same s h) (DqAll.same s t)
theorem DqKv.same {K : PySem.W.Frag} {H H' : Hp} (s : Same H H') : ∀ {kvs : List (Key × V)} {ps : List (PyData × PyData)}, DqKv K H kvs ps → DqKv K H' kvs ps
  | _, _, .nil => .nil
  | _, _, .cons h t => .cons (Dq.same s h) (DqKv.same s t)
end
section
variable {X : Cx} {pins : List (Addr × Obj)} {σ : St} {H : Hp} {s : Shared}
theorem keys_read {P : Program} {w : World} {h : Heap} : ∀ {kvs : List (Key × V)} {ps : List (PyData × PyData)} {vs : List (Key × Value)} {es : List DictEntry} {K : PySem.W.Frag} {H : Hp}, DqKv K H kvs ps → KV kvs vs → Pairs (mixKind P w) es vs → ReadsAll h (es.map (·.key)) (ps.map (·.1)) []
  | _, _, _, _, _, _, .nil, .nil, .nil => .nil
  | _, _, _, _, _, _, .cons (k := k) _ t, .cons (b := kv) r rt, .cons (e := en) e _ et => by
    have ek : k = kv.1 := r.1
    have e' : keyIs k en.key = true := by rw [ek]; exact e
    have q := keys_read (P := P) (w := w) (h := h) t rt et
    rcases keyIs_shape e' with ⟨i, t, rfl, hv⟩ | ⟨x, t, rfl, hv⟩
    · simp only [List.map_cons]
      rw [hv]
      exact ReadsAll.cons (as := []) (Reads.int i t) q
    · simp only [List.map_cons]
      rw [hv]
      exact ReadsAll.cons (as := []) (Reads.str x t) q
theorem vals_of {P : Program} {w : World} : ∀ {vs : List (Key × Value)} {es : List DictEntry}, Pairs (mixKind P w) es vs → es.map (·.val) = vs.map (·.2)
  | _, _, .nil => rfl
  | _, _, .cons _ e t => by simp only [List.map_cons]; rw [e, vals_of t]
mutual
theorem Dq.reads (I : Inv X pins σ H s) : ∀ {v : V} {d : PyData} {u : Value}, Dq X.K H v d → RelV v u → ∃ as, Reads s.heap u d as ∧ sysModules ∉ as
  | _, _, _, .non, r => by
    obtain rfl : _ = Value.none := r
    exact ⟨_, Reads.none, by simp⟩
  | _, _, _, .bl b, r => by
    obtain rfl : _ = Value.bool b := r
    exact ⟨_, Reads.bool b, by simp⟩
  | _, _, _, .int i, r => by
    obtain ⟨t, rfl⟩ := r
    exact ⟨_, Reads.int i t, by simp⟩
  | _, _, _, .str x, r => by
    obtain ⟨t, rfl⟩ := r
    exact ⟨_, Reads.str x t, by simp⟩
  | _, _, _, .lst (a := a) hs n ha, r => by
    obtain rfl : _ = Value.ref a := r
    obtain ⟨its, rv, ⟨o, m, ho, hc, _, hd⟩, _⟩ := I.list hs
    obtain ⟨as, hr, nn⟩ := DqAll.reads I ha rv
    exact ⟨_, Reads.list ho hc hd hr, by simp only [List.mem_cons, not_or]; exact ⟨n.1.symm, nn⟩⟩
  | _, _, _, .tup (a := a) hs _ ha, r => by
    obtain rfl : _ = Value.ref a := r
    obtain ⟨its, rv, ⟨o, ho, hc, m, hd⟩, _⟩ := I.tuple hs
    obtain ⟨as, hr, nn⟩ := DqAll.reads I ha rv
    exact ⟨_, Reads.tuple ho hc hd hr, nn⟩
  | _, _, _, .dct (a := a) (kvs := kvs) (ps := ps) hs ha, r => by
    obtain rfl : _ = Value.ref a := r
    obtain ⟨_, hn, vs, rel, o, es, ep, ho, hx, hd, _, hp, _⟩ := dk_rd I.hok hs
    obtain ⟨as, hr, nn⟩ := DqKv.reads I ha rel
    refine ⟨_, Reads.dict ho hx.1 hd (keys_read ha rel hp) (by rw [vals_of hp]; exact hr), ?_⟩
    simp only [List.cons_append, List.nil_append, List.mem_cons, not_or]
    exact ⟨fun e => by rw [e] at hn; simp at hn, nn⟩
theorem DqAll.reads (I : Inv X pins σ H s) : ∀ {vs : List V} {ds : List PyData} {us : List Value}, DqAll X.K H vs ds → Vals vs us → ∃ as, ReadsAll s.heap us ds as ∧ sysModules ∉ as
  | _, _, _, .nil, .nil => ⟨_, ReadsAll.nil, by simp⟩
  | _, _, _, .cons h t, .cons r rt => by
    obtain ⟨as, q1, n1⟩ := Dq.reads I h r
    obtain ⟨bs, q2, n2⟩ := DqAll.reads I t rt
    exact ⟨_, ReadsAll.cons q1 q2, by simp only [List.mem_append, not_or]; exact ⟨n1, n2⟩⟩
theorem DqKv.reads (I : Inv X pins σ H s) : ∀ {kvs : List (Key × V)} {ps : List (PyData × PyData)} {vs : List (Key × Value)}, DqKv X.K H kvs ps → KV kvs vs → ∃ as, ReadsAll s.heap (vs.map (·.2)) (ps.map (·.2)) as ∧ sysModules ∉ as
  | _, _, _, .nil, .nil => ⟨_, ReadsAll.nil, by simp⟩
  | _, _, _, .cons h t, .cons r rt => by
    obtain ⟨as, q1, n1⟩ := Dq.reads I h r.2
    obtain ⟨bs, q2, n2⟩ := DqKv.reads I t rt
    exact ⟨_, ReadsAll.cons q1 q2, by simp only [List.mem_append, not_or]; exact ⟨n1, n2⟩⟩
end
/-! ### repr(x) of data -/
theorem call_repr {k : Nat} (hr : Room k X.A) : CallR X (.builtin "repr") (fun xs H Q => ∃ (a : Addr) (d : PyData), xs = [.ref a] ∧ Dq X.K H (.ref a) d ∧ d.showable = true ∧ d.depth ≤ 60 ∧ d.shown.length ≤ sizeLine ∧ Q (.str d.shown) H) := by
  intro pins s σ H xs us Q I r h
  obtain ⟨a, d, rfl, hd, hs, hp, hz, q⟩ := h
  obtain ⟨u, rfl, rx⟩ := vals1 r
  obtain ⟨as, rd, nn⟩ := Dq.reads I hd rx
  obtain rfl : u = Value.ref a := rx
  have hu := hr.units
  exact repr_of_reads' rd hs (fun _ => nn) hr.gd (by omega) (fun _ _ e => e) (fun h' t tk hk => ⟨.str d.shown, H, I.kept hk, ⟨t, rfl⟩, q⟩) hz
/-! ### a dict equals itself -/
end
/-! ### the same, to a depth -/
def flatQ : V → Bool
  | .non | .bl _ | .int _ | .str _ => true
  | _ => false
def Sm (K : PySem.W.Frag) (H : Hp) : Nat → V → V → Prop
  | 0, _, _ => False
  | n + 1, x, y => (x = y ∧ flatQ x = true) ∨ (∃ a kvs, x = .ref a ∧ y = .ref a ∧ Rd H a (.dK kvs)) ∨
      (∃ a b xs ys, x = .ref a ∧ y = .ref b ∧ SqL K H a xs ∧ SqL K H b ys ∧ Paired (Sm K H n) xs ys ∧ xs.length ≤ 10000) ∨ (∃ a b xs ys, x = .ref a ∧ y = .ref b ∧ SqT K H a xs ∧ SqT K H b ys ∧ Paired (Sm K H n) xs ys ∧ xs.length ≤ 10000)
theorem paired_imp {α β : Type} {F G : α → β → Prop} (h : ∀ a b, F a b → G a b) : ∀ {l : List α} {m : List β}, Paired F l m → Paired G l m
  | _, _, .nil => .nil
  | _, _, .cons q t => .cons (h _ _ q) (paired_imp h t)
theorem Sm.same {K : PySem.W.Frag} {H H' : Hp} (s : Same H H') : ∀ {n : Nat} {x y : V}, Sm K H n x y → Sm K H' n x y
  | 0, _, _, h => h
  | n + 1, x, y, h => by
    rcases h with h | ⟨a, kvs, e1, e2, hd⟩ | ⟨a, b, xs, ys, e1, e2, h1, h2, p, z⟩ | ⟨a, b, xs, ys, e1, e2, h1, h2, p, z⟩
    · exact .inl h
    · exact .inr (.inl ⟨a, kvs, e1, e2, hd.same s⟩)
    · exact .inr (.inr (.inl ⟨a, b, xs, ys, e1, e2, h1.same s, h2.same s, paired_imp (fun _ _ q => Sm.same s q) p, z⟩))
    · exact .inr (.inr (.inr ⟨a, b, xs, ys, e1, e2, h1.same s, h2.same s, paired_imp (fun _ _ q => Sm.same s q) p, z⟩))
end L2
namespace L2
open PySem PySem.Spec PyProof.Rows
/-! ### {e for x in xs}, its members ints -/

section
variable {X : Cx}

end
end L2
/-! == and != of two instances of an own class that has __eq__ and no __ne__ -/
namespace OE
open PySem PySem.W PyProof.Rows
section
variable {prog : Program} {w : World} {A : Around} {E : Value → Shared → Prop} {s : Shared} {K : Frag} {x y C f : Addr} {ox : Obj} {od : Option Obj}
end
end OE
namespace OE
open PySem PySem.W PyProof.Rows
section
variable {prog : Program} {w : World} {A : Around} {E : Value → Shared → Prop} {s : Shared} {K : Frag} {x C f : Addr} {ox : Obj} {od : Option Obj}
end
end OE
namespace L2
open PySem PySem.Spec PyProof.Rows
/-- an own class with __eq__ (at f) and no __ne__ -/
structure EqM (K : PySem.W.Frag) (C f : Addr) : Prop where
  eq : PySem.W.findIn K (.ref C) "__eq__" = some (some (.ref f))
  fn : PySem.W.isFn K (.ref f) = true
  ne : PySem.W.findIn K (.ref C) "__ne__" = some (some (.builtin "object.__ne__"))
  sub : PySem.W.subIn K (.ref C) (.type "object") = some true
section
variable {X : Cx} {CX : CXT} {k : Nat} {f C : Addr} {fd : FuncData} {ps : List Str} {sp : Sp} {E : XK}
theorem nf_all {K : PySem.W.Frag} {C : Addr} : PySem.W.subIn K (.type "NoneType") (.ref C) = some false ∧ PySem.W.subIn K (.type "bool") (.ref C) = some false ∧ PySem.W.subIn K (.type "int") (.ref C) = some false ∧ PySem.W.subIn K (.type "str") (.ref C) = some false ∧
    PySem.W.subIn K (.type "list") (.ref C) = some false ∧ PySem.W.subIn K (.type "tuple") (.ref C) = some false ∧ PySem.W.subIn K (.type "dict") (.ref C) = some false :=
  ⟨rfl, rfl, rfl, rfl, rfl, rfl, rfl⟩
end
end L2
namespace L2
open PySem PySem.Spec PyProof.Rows
/-! ### short forms -/
/-- the built-ins' names stand for the built-ins -/
structure Tb (mg : Str → Option Value) : Prop where
  isi : mg "isinstance" = none
  bool : mg "bool" = none
  int : mg "int" = none
  str : mg "str" = none
  tuple : mg "tuple" = none
  list : mg "list" = none
  len : mg "len" = none
  all : mg "all" = none
  zip : mg "zip" = none
  repr : mg "repr" = none
  range : mg "range" = none
theorem bt_bool : bootBuiltins "bool" = some (.type (Kc.nm .bl)) := by decide +kernel
theorem bt_int : bootBuiltins "int" = some (.type (Kc.nm .int)) := by decide +kernel
theorem bt_tuple : bootBuiltins "tuple" = some (.type (Kc.nm .tup)) := by decide +kernel
theorem bt_list : bootBuiltins "list" = some (.type (Kc.nm .lst)) := by decide +kernel
theorem bf_all : bootBuiltins "all" = some (.builtin "all") := by decide +kernel
theorem bf_repr : bootBuiltins "repr" = some (.builtin "repr") := by decide +kernel
section
variable {X : Cx} {e : Expr} {te : TE} {p q pos : Pos}
def rIsi (K : PySem.W.Frag) (c : Kc) : List V → Hp → VK → Prop := fun xs H Q => ∃ (x : V) (k : Ki), xs = [x, .ty c.nm] ∧ KiV K H x k ∧ Q (.bl (isK k c)) H
theorem call_isiC (c : Kc) : CallR X (.builtin "isinstance") (rIsi X.K c) := fun pins s σ H xs us Q I r ⟨x, k, e, hk, q⟩ => call_isi pins s σ H xs us Q I r ⟨x, k, c, e, hk, q⟩
theorem pe_isi {nm : Str} (c : Kc) (he : PE X e te) (hg : Gl X "isinstance") (hm : X.mg "isinstance" = none) (hgT : Gl X nm) (hmT : X.mg nm = none) (hv : bootBuiltins nm = some (.type c.nm)) (hn : nm ≠ "__name__" := by decide) (hd : (nm == ("__debug__" : Str)) = false := by decide)
    (h1 : starEach [e, .Name nm q] X.env = (false, eval e X.env) :: starEach [.Name nm q] X.env := by rfl) : PE X (.Call (.Name "isinstance" p) [e, .Name nm q] [] pos) (tCB (rIsi X.K c) (tCons te (tCons (tC (.ty c.nm)) tNil))) :=
  pe_callB (pos := pos) (p := p) (call_isiC c) hg hm boot_isinstance (pa_cons he (pa_cons (pe_bltn (v := .ty c.nm) (pos := q) hgT hmT hv rfl hn hd) pa_nil) h1) (he := h1)
/-- a list of written items, its address not sys.modules' -/
def tLstX (t : TA) : TE := fun σ H Q => t σ H fun xs H1 => xs.length ≤ sizeLine ∧ ∀ p, H1 p = none ∧ p ≠ sysModules → Q (.ref p) (upd H1 p (.lst xs))
theorem pe_lstX {es : List Expr} {t : TA} (h : PA X es t) : PE X (.List es pos) (tLstX t) := by
  intro pins s σ H Q I hq
  refine wpAny_List_spliced (thn (h pos pins s σ H _ I hq) fun us s1 ⟨xs, H1, I1, r, z, q⟩ => ⟨by rw [← r.length]; exact z, ?_⟩)
  have hf : H1 s1.heap.objs.size = none := I1.hok.fresh (Nat.le_refl _)
  refine ⟨.ref s1.heap.objs.size, upd H1 s1.heap.objs.size (.lst xs), I1.laid (t' := s1.toks) (fun b u e => Heap.get?_push_of_some _ e) (Nat.le_refl _) ⟨z, us, 0, r, Heap.get?_push_size _ rfl⟩, rfl, q _ ⟨hf, Nat.ne_of_gt I1.big⟩⟩
/-! ### == of two tuples with the same items -/
end
/-! ### a comprehension over zip -/
/-! ### a comprehension over zip -/
theorem lc_zipT {K : PySem.W.Frag} {a b : Addr} {xs ys : List V} {g : TG} {tt : TT} {te : TE} {vs : List Nat} {σ : St} {H1 : Hp} {D : Addr} {Qd : Hp → Prop} (hlen : xs.length = ys.length) (Pv : Nat → Hp → Prop) (h0 : Pv 0 (upd H1 D (.lst []))) (hl : ∀ i H, i ≤ xs.length → Pv i H → SqT K H a xs ∧ SqT K H b ys)
    (hs : ∀ i x y T H, xs[i]? = some x → ys[i]? = some y → H T = none → Pv i H → g (.ref T) (wipe σ vs) (upd H T (.tup [x, y])) fun σ2 H2 => wipe σ2 vs = wipe σ vs ∧ tt σ2 H2 fun b H3 =>
      if b = true then te σ2 H3 fun y H4 => ∃ acc, H4 D = some (.lst acc) ∧ acc.length < sizeLine ∧ Pv (i + 1) (upd H4 D (.lst (acc ++ [y]))) else Pv (i + 1) H3) (hd : ∀ H, Pv xs.length H → Qd H) :
    ∃ W : Nat → Nat → Hp → Prop, (∃ m, W 0 m (upd H1 D (.lst []))) ∧ ∀ i m H, W i m H →
      ((Itzt K a b).stop i H ∧ Qd H) ∨ ((Itzt K a b).go i H ∧ ∃ Nx : Hp → Prop, (∀ H', Nx H' → ∃ m', m' < m ∧ W (i + 1) m' H') ∧ ∀ x H', (Itzt K a b).yld i H x H' → g x (wipe σ vs) H' fun σ2 H2 => wipe σ2 vs = wipe σ vs ∧ tt σ2 H2 fun b H3 =>
        if b = true then te σ2 H3 fun y H4 => ∃ acc, H4 D = some (.lst acc) ∧ acc.length < sizeLine ∧ Nx (upd H4 D (.lst (acc ++ [y]))) else Nx H3) := by
  refine ⟨fun i m H => m = xs.length - i ∧ i ≤ xs.length ∧ Pv i H, ⟨xs.length, by simp, Nat.zero_le _, h0⟩, ?_⟩
  rintro i m H ⟨rfl, hi, p⟩
  obtain ⟨qa, qb⟩ := hl i H hi p
  by_cases hlt : i < xs.length
  · have hlt' : i < ys.length := by omega
    refine .inr ⟨⟨xs, ys, xs[i], ys[i], qa, qb, List.getElem?_eq_getElem hlt, List.getElem?_eq_getElem hlt'⟩, Pv (i + 1), fun H' p' => ⟨xs.length - (i + 1), by omega, rfl, hlt, p'⟩, fun v H' y => ?_⟩
    obtain ⟨T, x, y, rfl, hT, rfl, hx, hy⟩ := y
    exact hs i x y T H (hx xs qa) (hy ys qb) hT p
  · obtain rfl : i = xs.length := by omega
    exact .inl ⟨⟨xs, ys, qa, qb, .inl (Nat.le_refl _)⟩, hd H p⟩
end L2
/-! The rules once more, each judgement in a structure: so nothing unfolds it while long expressions are put together -/
namespace L2
open PySem PySem.Spec PyProof.Rows
structure QE (X : Cx) (e : Expr) (t : TE) : Prop where
  r : PE X e t
structure QA (X : Cx) (es : List Expr) (t : TA) : Prop where
  r : PA X es t
structure QK (X : Cx) (kws : List Keyword) (t : TA) : Prop where
  r : PK X kws t
structure QS (X : Cx) (st : Stmt) (t : TS) : Prop where
  r : PS X st t
structure QSs (X : Cx) (sts : List Stmt) (t : TS) : Prop where
  r : PSs X sts t
structure QT (X : Cx) (e : Expr) (t : TT) : Prop where
  r : PT X e t
def unstar : Expr → Bool
  | .Starred _ _ => false
  | _ => true
theorem star_ns {e : Expr} {es : List Expr} {env : Env} (h : unstar e = true) : starEach (e :: es) env = (false, eval e env) :: starEach es env := by
  rw [PySem.starEach.eq_3]
  intro v p z
  subst z
  cases h
theorem star_all {env : Env} {pos : Pos} : ∀ {es : List Expr}, es.all unstar = true → (backTo pos (starEach es env)).any (·.1) = false
  | [], _ => by rw [PySem.starEach.eq_1]; rfl
  | e :: es, h => by
    simp only [List.all_cons, Bool.and_eq_true] at h
    rw [star_ns h.1]
    show (false || (backTo pos (starEach es env)).any (·.1)) = false
    rw [star_all h.2]
    rfl
def nocomp : Expr → Bool
  | .List _ _ | .BinOp _ _ _ _ | .Tuple _ _ _ | .Call _ _ _ _ | .Name _ _ | .Constant _ _ _ | .Subscript _ _ _ => true
  | _ => false
theorem sw_no {e : Expr} {o : Option Expr} {l : Nat} {env : Env} (h : nocomp e = true) : swapsWith e o l env = pure false := by
  cases e <;> first | rfl | cases h
section
variable {X : Cx} {pos : Pos}
theorem qv (i : Nat) {x : Str} (hN : X.N[i]? = some x := by rfl) (hv : Vis X.env.scope x := by first | exact Or.inl rfl | exact Or.inr (Or.inl rfl) | exact Or.inr (Or.inr rfl)) (hd : (x == ("__debug__" : Str)) = false := by decide) (hcd : (x == ("__classdict__" : Str)) = false := by decide) : QE X (.Name x pos) (tVar i) := ⟨pv i hN hv hd hcd⟩
theorem q_int {i : Int} {j : Nat} : QE X (.Constant (.int i) j pos) (tC (.int i)) := ⟨pe_int⟩
theorem q_bl {b : Bool} {j : Nat} : QE X (.Constant (.bool b) j pos) (tC (.bl b)) := ⟨pe_bl⟩
theorem q_non {j : Nat} : QE X (.Constant .none j pos) (tC .non) := ⟨pe_non⟩
theorem q_str {x : Str} {j : Nat} : QE X (.Constant (.str x) j pos) (tC (.str x)) := ⟨pe_str⟩
theorem qa_nil : QA X [] tNil := ⟨pa_nil⟩
theorem qc {e : Expr} {es : List Expr} {te : TE} {t : TA} (ha : QE X e te) (hr : QA X es t) (hu : unstar e = true := by rfl) : QA X (e :: es) (tCons te t) := ⟨pa_cons ha.r hr.r (star_ns hu)⟩
theorem qk_nil : QK X [] tNil := ⟨pk_nil⟩
theorem qk {e : Expr} {kws : List Keyword} {te : TE} {t : TA} {nm : Option Str} {kpos : Pos} (ha : QE X e te) (hr : QK X kws t) : QK X (⟨nm, e, kpos⟩ :: kws) (tCons te t) := ⟨pk_cons ha.r hr.r⟩
theorem q_tup {es : List Expr} {x1} {t : TA} (h : QA X es t) : QE X (.Tuple es x1 pos) (tTup t) := ⟨pe_tup h.r⟩
theorem q_lst {es : List Expr} {t : TA} (h : QA X es t) : QE X (.List es pos) (tLst t) := ⟨pe_lst h.r⟩
theorem q_lstX {es : List Expr} {t : TA} (h : QA X es t) : QE X (.List es pos) (tLstX t) := ⟨pe_lstX h.r⟩
theorem q_op {a b : Expr} {ta tb : TE} {op : Operator} {r : R2} (ho : OpR X (binaryOp op) r) (ha : QE X a ta) (hb : QE X b tb) : QE X (.BinOp a op b pos) (tOp r ta tb) := ⟨pe_op ho ha.r hb.r⟩
theorem q_un {a : Expr} {ta : TE} {op : UnaryOp} {r : V → Hp → VK → Prop} (ho : UnR X (unaryOp op) r) (ha : QE X a ta) : QE X (.UnaryOp op a pos) (tUn r ta) := ⟨pe_un ho ha.r⟩
theorem q_d1 {k v : Expr} {tk tv : TE} (hk : QE X k tk) (hv : QE X v tv) : QE X (.Dict [some k] [v] pos) (tDisp [(tk, tv)]) := ⟨pe_disp (pps_cons hk.r hv.r pps_nil) rfl rfl (List.cons_ne_nil _ _) (Nat.le_of_ble_eq_true rfl)⟩
theorem q_ix {a b : Expr} {ta tb : TE} {r : R2} (hr : IxR X r) (ha : QE X a ta) (hb : QE X b tb) (hs : PlainIx b) : QE X (.Subscript a b pos) (tOp r ta tb) := ⟨pe_ix hr ha.r hb.r hs⟩
theorem qss_nil : QSs X [] tNext := ⟨pss_nil⟩
theorem qss1 {st : Stmt} {t : TS} (h1 : QS X st t) : QSs X [st] t := ⟨pss_one h1.r⟩
theorem qs_ret {e : Expr} {te : TE} (he : QE X e te) : QS X (.Return (some e) pos) (tRet te) := ⟨ps_ret he.r⟩
theorem qs_set {i : Nat} {x : Str} {e : Expr} {te : TE} {pos' : Pos} (hN : X.N.Nodup) (hi : X.N[i]? = some x) (hx : Loc X.env.scope x) (he : QE X e te) (hs : nocomp e = true := by rfl) (hf : X.fn x = true ∨ X.env.scope.names.lookup x = some .local := by first | exact .inl rfl | exact .inr rfl | assumption) : QS X (.Assign [.Name x pos'] e pos) (tAsg te (gName i)) := ⟨ps_set hN hi hx he.r (sw_no hs) hf⟩
theorem qs_if {c : Expr} {a b : List Stmt} {tc : TT} {t u : TS} (hc : QT X c tc) (ha : QSs X a t) (hb : QSs X b u) : QS X (.If c a b pos) (tIfS tc t u) := ⟨ps_if hc.r ha.r hb.r⟩
theorem qt {e : Expr} {t : TT} (h : PT X e t) : QT X e t := ⟨h⟩
theorem qe {e : Expr} {t : TE} (h : PE X e t) : QE X e t := ⟨h⟩
theorem qs {st : Stmt} {t : TS} (h : PS X st t) : QS X st t := ⟨h⟩
section
variable {CX : CXT} {k : Nat} {f : Addr} {fd : FuncData} {ps ks : List Str} {sp : Sp} {dvs : List V} {ds : List Value} {E : XK} {x : Str} {p : Pos} {e : Expr} {es : List Expr} {kws : List Keyword} {t tk : TA} {g : List Value → List Value → List Value} {gV : List V → List V → List V}
theorem q_call (F : FnOk X.prog X.w X.K X.mg X.base CX k f fd ps sp) (hr : Room k X.A) (hg : Gl X x) (hm : X.mg x = some (.ref f)) (hk : PySem.W.keepIn X.K (.ref f) = true) (hb : Binds X.K fd ps ds) (hd : Vals dvs ds) (hx : Passes CX X E)
    (ha : QA X (e :: es) t) (hdb : (x == ("__debug__" : Str)) = false := by decide) (hu : (e :: es).all unstar = true := by rfl) : QE X (.Call (.Name x p) (e :: es) [] pos) (tCall sp dvs E t) :=
  have h : unstar e = true ∧ es.all unstar = true := by simpa using hu
  ⟨pe_call F hr hg hm hk hb hd hx ha.r hdb (star_ns h.1) (star_all h.2)⟩
theorem kw_all {env : Env} {pos : Pos} : ∀ {kws : List Keyword}, kws.all (·.arg.isSome) = true → (backToKw pos (keywordEach kws env)).all (·.1.isSome) = true ∧ (backToKw pos (keywordEach kws env)).filterMap (·.1) = kws.filterMap (·.arg) ∧ (backToKw pos (keywordEach kws env)).any (·.1.isNone) = false
  | [], _ => by rw [PySem.keywordEach.eq_1]; exact ⟨rfl, rfl, rfl⟩
  | ⟨n, v, q⟩ :: kws, h => by
    simp only [List.all_cons, Bool.and_eq_true] at h
    obtain ⟨h1, h2, h3⟩ := kw_all (env := env) (pos := pos) h.2
    rw [PySem.keywordEach.eq_2]
    cases n with
    | none => simp at h
    | some n =>
      refine ⟨?_, ?_, ?_⟩
      · show (true && (backToKw pos (keywordEach kws env)).all (·.1.isSome)) = true
        rw [h1]; rfl
      · show n :: (backToKw pos (keywordEach kws env)).filterMap (·.1) = n :: kws.filterMap (·.arg)
        rw [h2]
      · show (false || (backToKw pos (keywordEach kws env)).any (·.1.isNone)) = false
        rw [h3]; rfl
theorem q_callK (F : FnOk X.prog X.w X.K X.mg X.base CX k f fd ps sp) (hr : Room k X.A) (hg : Gl X x) (hm : X.mg x = some (.ref f)) (hk : PySem.W.keepIn X.K (.ref f) = true) (hb : KBinds X.K fd ps ks g gV) (hx : Passes CX X E)
    (ha : QA X (e :: es) t) (hkw : QK X kws tk) (hks : kws.filterMap (·.arg) = ks := by rfl) (hall : kws.all (·.arg.isSome) = true := by rfl) (hdb : (x == ("__debug__" : Str)) = false := by decide) (hu : (e :: es).all unstar = true := by rfl) :
    QE X (.Call (.Name x p) (e :: es) kws pos) (tCallK sp gV E t tk) :=
  have h : unstar e = true ∧ es.all unstar = true := by simpa using hu
  have z := kw_all (env := X.env) (pos := pos) hall
  ⟨pe_callK F hr hg hm hk hb hx ha.r hkw.r z.1 (z.2.1.trans hks) hdb (star_ns h.1) (by rw [star_all hu, z.2.2]; rfl)⟩
end
end
theorem Fun.okQ {P : Program} {w : World} {K : PySem.W.Frag} {mg : Str → Option Value} {base : Heap} {x qual : Str} {st : Stmt} {f : Addr} {fd : FuncData} {N ps : List Str} {k : Nat} {sp : Sp} (F : Fun K x qual st f fd) (S : FnScope N ps (defScope st)) (len : ∀ vs H Q E, sp vs H Q E → vs.length = ps.length)
    (hbody : ∀ (cdv : Value) (A : Around) (outer : List Env) (s : Shared) (H : Hp) (vs : List V) (Q : VK) (E : XK), Room k (A.deeper (envOfC qual (defScope st) s.heap.objs.size f cdv)) → sp vs H Q E →
      ∃ t, QSs (cxOf CX0 P w K mg base N qual (defScope st) f cdv A outer s H E).nox (defBody st) t ∧ t { nx := fun _ H' => Q .non H', rt := Q } (start N vs) H) : FnOk P w K mg base CX0 (k + 1) f fd ps sp :=
  F.ok S len fun cdv A outer s H vs Q E hr h => let ⟨t, z, q⟩ := hbody cdv A outer s H vs Q E hr h; ⟨t, z.r, q⟩
end L2
/-! comprehensions as maps -/
namespace L2
open PySem PySem.Spec PyProof.Rows
theorem sameR {H : Hp} : Same H H := fun _ _ e => e
theorem sameN {H : Hp} {p : Addr} (h : H p = none) (o : HO) : Same H (upd H p o) := fun b u q => by rw [upd_ne (ne_of_none q h)]; exact q
theorem same_upd {H H' : Hp} {D : Addr} {o : HO} (s : Same H H') (h : H D = none) : Same H (upd H' D o) := fun b u e => by rw [upd_ne (ne_of_none e h)]; exact s _ _ e
theorem yesT {σ : L2.St} {H : Hp} {A B : Hp → Prop} (h : A H) : tYes σ H (fun b H3 => if b = true then A H3 else B H3) := by
  show if true = true then A H else B H
  exact iteT h
theorem mem_of_get {α : Type} {xs : List α} {i : Nat} {x : α} (h : xs[i]? = some x) : x ∈ xs := List.mem_of_getElem? h
theorem take_step {α : Type} {xs : List α} {i : Nat} {x : α} (h : xs[i]? = some x) : xs.take (i + 1) = xs.take i ++ [x] := by
  have hi : i < xs.length := (List.getElem?_eq_some_iff.mp h).1
  rw [List.take_succ_eq_append_getElem hi]
  rw [List.getElem?_eq_getElem hi] at h
  rw [Option.some.inj h]

theorem Same.seqT {K : PySem.W.Frag} {H H' : Hp} {a : Addr} {xs : List V} (s : Same H H') (h : SqT K H a xs) : SqT K H' a xs := h.same s
theorem Same.seqL {K : PySem.W.Frag} {H H' : Hp} {a : Addr} {xs : List V} (s : Same H H') (h : SqL K H a xs) : SqL K H' a xs := h.same s




end L2
/-! own classes made, and methods called, with keywords -/
namespace L2
open PySem PySem.Spec PyProof.Rows
section
variable {X : Cx} {CX : CXT} {k : Nat} {f C : Addr} {fd : FuncData} {ps ks : List Str} {sp : Sp} {E : XK} {x m : Str} {p pos apos : Pos} {e o : Expr} {es : List Expr} {kws : List Keyword} {te ta : TE} {t tk : TA}
  {g : List Value → List Value → List Value} {gV : List V → List V → List V}
end
end L2
/-! repr, str, len of own instances; texts put together -/
namespace OE
open PySem PySem.W PyProof.Rows Builtin
section
variable {prog : Program} {w : World} {A : Around} {E : Value → Shared → Prop} {s : Shared} {K : Frag} {y D g : Addr} {oy : Obj} {oe : Option Obj}
end
end OE
namespace L2
open PySem PySem.Spec PyProof.Rows
section
variable {X : Cx} {CX : CXT} {k : Nat} {f C : Addr} {fd : FuncData} {ps : List Str} {sp : Sp} {E : XK}
/-- a method of the class that is called by its name alone -/
structure Sp1 (K : PySem.W.Frag) (C : Addr) (nm : Str) (f : Addr) : Prop where
  at_ : PySem.W.findIn K (.ref C) nm = some (some (.ref f))
  fn : PySem.W.isFn K (.ref f) = true
end
/-! ### f-strings -/
/-- the parts of an f-string, each a text, put behind acc -/
abbrev TF := L2.St → Hp → Str → (Str → Hp → Prop) → Prop
section
variable {X : Cx} {pos pos' : Pos} {e : Expr} {es : List Expr} {te : TE} {t : TF}
end
end L2
/-! slices of tuples: the whole of one, one the other way about; the empty tuple and another -/
namespace HT
open PySem PySem.Spec PyProof.Rows
section
variable {prog : Program} {w : World} {A : Around} {E : Value → Shared → Prop} {s : Shared}
theorem fm_map {α β : Type} {f : α → Option β} {g : α → β} : ∀ {l : List α}, (∀ x ∈ l, f x = some (g x)) → l.filterMap f = l.map g
  | [], _ => rfl
  | x :: l, h => by
    rw [List.filterMap_cons, h x (List.mem_cons_self ..), List.map_cons, fm_map fun y hy => h y (List.mem_cons_of_mem _ hy)]
theorem pick_rev (xs : Array Value) : ((List.range xs.size).filterMap fun (m : Nat) => xs[(((xs.size : Int) - 1) + (m : Int) * (-1)).toNat]?).toArray = xs.toList.reverse.toArray := by
  congr 1
  apply List.ext_getElem?
  intro i
  have e : (List.range xs.size).filterMap (fun (m : Nat) => xs[(((xs.size : Int) - 1) + (m : Int) * (-1)).toNat]?) = (List.range xs.size).map fun m => xs.toList.getD (xs.size - 1 - m) default := by
    refine fm_map fun m hm => ?_
    have hm' := List.mem_range.mp hm
    have z : (((xs.size : Int) - 1) + (m : Int) * (-1)).toNat = xs.size - 1 - m := by omega
    rw [z]
    have lt : xs.size - 1 - m < xs.size := by omega
    simp [lt, List.getD]
  rw [e]
  by_cases hi : i < xs.size
  · rw [List.getElem?_map, List.getElem?_range hi, List.getElem?_reverse (by simpa using hi)]
    have lt : xs.size - 1 - i < xs.size := by omega
    simp [lt, List.getD]
  · rw [List.getElem?_eq_none (by simpa using hi), List.getElem?_eq_none (by simpa using hi)]
end
end HT
namespace L2
open PySem PySem.Spec PyProof.Rows
section
variable {X : Cx} {e : Expr} {te : TE} {pos p2 : Pos}
end
end L2
namespace OE
open PySem PySem.W PyProof.Rows
section
variable {prog : Program} {w : World} {A : Around} {E : Value → Shared → Prop} {h : Heap} {g : Array GenState} {d : Drawn} {t : Nat} {os : OsState} {n : Int} {u : Tok} {K : Frag}
/-- isinstance(v, C), v of a written kind, C an own class -/
theorem nest_own {v : Value} {T : String} {C : Addr} {oC : Obj} {cd : ClassData} {dep : Int} {tk : Tok} {Q : Fin → Shared → Prop} (hT : (⟨h, g, d, t, os⟩ : Shared).TypeIs v T) (hL : Looks (model prog w) h (typeOf v) (.type T)) (KX : K.In h) (hs : subIn K (.type T) (.ref C) = some false)
    (hC : h.get? C = some oC) (hk : oC.cls = .type "type") (hcl : oC.data = .cls cd) (hat : ∀ Q : Option Value → Shared → Prop, Q (some (.type T)) ⟨h, g, d, t + 1, os⟩ → wpAny (model prog w) A (getAttr? v "__class__") Q E ⟨h, g, d, t, os⟩)
    (hq : Q (.done (.ret (.bool false))) ⟨h, g, d, t + 1, os⟩) : wpAny (model prog w) A (Builtin.«isinstance.nested» ⟨[v, .ref C, .int dep tk], []⟩) Q E ⟨h, g, d, t, os⟩ := by
  have hT2 : (⟨h, g, d, t, os⟩ : Shared).TypeIs (.ref C) "type" := ⟨_, hC, hk⟩
  repeat (any_goals (first | assumption | wp_step))
  refine (looks_subIn KX hs).here ?_
  rw [if_neg (by decide)]
  refine wpAny_bind (hat _ ?_)
  refine wpAny_bind (m := isType (.type T)) (wpAny_pure ?_)
  rw [if_neg (by decide)]
  refine wpAny_bind (wpAny_rule ?_)
  refine (looks_subIn KX hs).here ?_
  exact wpAny_pure hq
end
end OE
namespace L2
open PySem PySem.Spec PyProof.Rows
section
variable {X : Cx}
/-- a class that stands written -/
structure ClsObj (K : PySem.W.Frag) (C : Addr) : Prop where
  ob : ∃ (o : Obj) (cd : ClassData), K.lookup C = some o ∧ o.cls = .type "type" ∧ o.data = .cls cd
/-- isinstance(x, C), x of a written kind -/
theorem call_isiN {C : Addr} (hc : ClsObj X.K C) : CallR X (.builtin "isinstance") (fun xs H Q => ∃ (x : V) (k : Ki), xs = [x, .ref C] ∧ KiV X.K H x k ∧ Q (.bl false) H) := by
  intro pins s σ H xs us Q I r h
  obtain ⟨x, k, rfl, hk, q⟩ := h
  obtain ⟨u, u2, rfl, rx, rc⟩ := vals2 r
  obtain rfl : u2 = Value.ref C := rc
  obtain ⟨oC, cd, lk, kt, kd⟩ := hc.ob
  have hC := I.kIn _ _ lk
  obtain ⟨n1, n2, n3, n4, n5, n6, n7⟩ := nf_all (K := X.K) (C := C)
  have fin : ∀ t, EP X pins σ Q (.bool false) { s with toks := t } := fun t => ⟨.bl false, H, I.tok _, rfl, q⟩
  have KX := I.kIn
  obtain ⟨hh, g, d, t, os⟩ := s
  have obj : ∀ {a : Addr} {T : String}, (∃ o, hh.get? a = some o ∧ o.cls = .type T) → PySem.W.Looks (model X.prog X.w) hh (typeOf (.ref a)) (.type T) := fun {a T} ⟨o, ho, hc⟩ => hc ▸ (PySem.W.Looks.ld ho).andThen .now
  refine call_isinstance_of ?_ ?_
  · cases x with
    | non => obtain rfl : u = Value.none := rx; exact OE.nest_own (T := "NoneType") rfl (.of_pure rfl) KX n1 hC kt kd (fun Q q => class_attr_none q) (fin _)
    | bl b => obtain rfl : u = Value.bool b := rx; exact OE.nest_own (T := "bool") rfl (.of_pure rfl) KX n2 hC kt kd (fun Q q => class_attr_bool q) (fin _)
    | int i => obtain ⟨tk, rfl⟩ := rx; exact OE.nest_own (T := "int") rfl (.of_pure rfl) KX n3 hC kt kd (fun Q q => class_attr_int q) (fin _)
    | str z => obtain ⟨tk, rfl⟩ := rx; exact OE.nest_own (T := "str") rfl (.of_pure rfl) KX n4 hC kt kd (fun Q q => class_attr_str q) (fin _)
    | ref a =>
      obtain rfl : u = Value.ref a := rx
      rcases hk with ⟨_, ys, hx⟩ | ⟨_, ys, hx⟩ | ⟨_, kvs, hx⟩
      · obtain ⟨o, ho, hc⟩ := I.listObj hx; exact OE.nest_own (T := "list") ⟨o, ho, hc⟩ (obj ⟨o, ho, hc⟩) KX n5 hC kt kd (fun Q q => class_attr_list ho hc q) (fin _)
      · obtain ⟨o, ho, hc⟩ := I.tupObj hx; exact OE.nest_own (T := "tuple") ⟨o, ho, hc⟩ (obj ⟨o, ho, hc⟩) KX n6 hC kt kd (fun Q q => class_attr_tuple ho hc q) (fin _)
      · obtain ⟨o, ho, hc⟩ := I.dctObj hx; exact OE.nest_own (T := "dict") ⟨o, ho, hc⟩ (obj ⟨o, ho, hc⟩) KX n7 hC kt kd (fun Q q => class_attr_dict ho hc q) (fin _)
    | byt _ => exact (show False from hk).elim
    | flt _ => exact (show False from hk).elim
    | ty _ => exact (show False from hk).elim
  · intro z
    subst z
    cases x with
    | non => cases rx
    | bl b => cases rx
    | int i => obtain ⟨_, h⟩ := rx; cases h
    | str i => obtain ⟨_, h⟩ := rx; cases h
    | ref a => cases rx
    | byt _ => exact (show False from hk).elim
    | flt _ => exact (show False from hk).elim
    | ty _ => exact (show False from hk).elim
end
end L2
namespace L2
open PySem PySem.Spec PyProof.Rows
section
variable {X : Cx} {pos : Pos}
/-- a, b, c = x, y, z with plain local names -/
def tPar3 (i j k : Nat) (ta : TA) : TS := fun D σ H => ta σ H fun vs H1 => ∃ u v w, vs = [u, v, w] ∧ D.nx (((σ.set i (some u)).set j (some v)).set k (some w)) H1
theorem ps_par3 {i j k : Nat} {x y z : Str} {a b c : Expr} {ta : TA} {px py pz pt : Pos} {kt k2 pt2} (hc : X.calm = true) (hN : X.N.Nodup) (hi : X.N[i]? = some x) (hj : X.N[j]? = some y) (hk : X.N[k]? = some z) (hij : i ≠ j) (hik : i ≠ k) (hjk : j ≠ k)
    (hx : X.env.scope.names.lookup x = some .local) (hy : X.env.scope.names.lookup y = some .local) (hz : X.env.scope.names.lookup z = some .local) (ha : PA X [a, b, c] ta)
    (hw : swappedStores [.Tuple [.Name x px, .Name y py, .Name z pz] kt pt] (.Tuple [a, b, c] k2 pt2) X.env = pure (some [x, y, z]))
    (hs : swapsWithSole [.Tuple [.Name x px, .Name y py, .Name z pz] kt pt] (.Tuple [a, b, c] k2 pt2) pos.line X.env = pure false := by rfl) :
    PS X (.Assign [.Tuple [.Name x px, .Name y py, .Name z pz] kt pt] (.Tuple [a, b, c] k2 pt2) pos) (tPar3 i j k ta) := by
  intro pins s σ H D I h
  rw [exec_Assign_arm]
  refine wpAny_bind (wpAny_standAt ?_)
  rw [hs]
  refine wpAny_bind (wpAny_pure ?_)
  rw [if_neg (by decide)]
  refine wpAny_bind (Tuple_ (thn (ha _ pins s σ H _ I h) fun us s1 ⟨vs, H1, I1, r1, u, v, w, e1, q1⟩ => ?_))
  subst e1
  obtain ⟨u1, u2, u3, rfl, ru, rv, rw'⟩ : ∃ u1 u2 u3, us = [u1, u2, u3] ∧ RelV u u1 ∧ RelV v u2 ∧ RelV w u3 := by
    cases r1 with
    | cons p q =>
      cases q with
      | cons p' q' =>
        cases q' with
        | cons p2 q2 =>
          cases q2
          exact ⟨_, _, _, rfl, p, p', p2⟩
  refine wpAny_newObj_type ?_ (by show 3 ≤ sizeLine; decide)
  have I2 : Inv X pins σ H1 { s1 with heap := s1.heap.push { cls := .type "tuple", data := .seq [u1, u2, u3].toArray } } := I1.kept (t' := s1.toks) fun b o e => Heap.get?_push_of_some _ e
  rw [hw]
  refine wpAny_bind (wpAny_pure ?_)
  show wpAny (model X.prog X.w) X.A (do rule "assign.swapped-stores"; let items ← unpackItems (.ref s1.heap.objs.size) 3 none; assignInOrder [fun v => bindName X.env z v, fun v => bindName X.env y v, fun v => bindName X.env x v] items.reverse; pure Flow.next) _ _ _
  refine wpAny_bind (wpAny_rule (wpAny_bind (unpackItems_tuple (items := #[u1, u2, u3]) (I.ok.hd hc) (IsTup.new s1.heap _) fun h' hx' => ?_)))
  have I3 := I2.kept (h' := h') (t' := s1.toks) fun b o e => hx' b o (Nat.ne_of_lt (Heap.lt_size e)) e
  show wpAny _ _ (assignInOrder [fun v => bindName X.env z v, fun v => bindName X.env y v, fun v => bindName X.env x v] [u3, u2, u1] >>= fun _ => pure Flow.next) _ _ _
  refine wpAny_bind (assignInOrder_cons (wpAny_bindName (store_ok I3 hN hk (.inl hz) rw' (fun s2 I4 => ?_) (.inr hz))))
  refine assignInOrder_cons (wpAny_bindName (store_ok I4 hN hj (.inl hy) rv (fun s3 I5 => ?_) (.inr hy)))
  refine assignInOrder_cons (wpAny_bindName (store_ok I5 hN hi (.inl hx) ru (fun s4 I6 => assignInOrder_nil (wpAny_pure ?_)) (.inr hx)))
  rw [List.set_comm _ _ hjk.symm, List.set_comm _ _ hik.symm, List.set_comm _ _ hij.symm] at I6
  exact ⟨_, H1, I6, q1⟩
end
end L2
/-! a block cut at a statement by a word of one's own -/
namespace L2
open PySem PySem.Spec PyProof.Rows
section
variable {X : Cx} {st : Stmt} {rest : List Stmt} {t u : TS}
/-- the first statement, then whatever comes of a word that holds behind it -/
def tCut (t u : TS) : TS := fun D σ H => ∃ Pv : L2.St → Hp → Prop, t { D with nx := Pv } σ H ∧ ∀ σ' H', Pv σ' H' → u D σ' H'
theorem pss_cut (h1 : PS X st t) (h2 : PSs X rest u) : PSs X (st :: rest) (tCut t u) := by
  intro pins s σ H D I h
  obtain ⟨Pv, ha, hb⟩ := h
  refine wpAny_execs_cons (thn (h1 pins s σ H { D with nx := Pv } I ha) fun f s1 q => ?_)
  cases f with
  | next =>
    obtain ⟨σ', H', I', q⟩ := q
    exact h2 pins s1 σ' H' D I' (hb σ' H' q)
  | ret v => exact q
  | brk => exact q
  | cont => exact q
end
end L2
/-! the same rules with the program's part told by its own letter: inside a comprehension's block -/
namespace L2
open PySem PySem.Spec PyProof.Rows
section
variable {X : Cx} {K : PySem.W.Frag}
theorem ix_listK (h : X.K = K := by rfl) : IxR X (rIxL K) := by subst h; exact ix_list
end
end L2
/-! a method called with keywords -/
namespace L2
open PySem PySem.Spec PyProof.Rows
section
variable {X : Cx} {CX : CXT} {k : Nat} {f C : Addr} {fd : FuncData} {ps ks : List Str} {sp : Sp} {E : XK} {x m : Str} {p pos apos : Pos} {e o : Expr} {es : List Expr} {kws : List Keyword} {te ta : TE} {t tk : TA}
  {g : List Value → List Value → List Value} {gV : List V → List V → List V}
end
end L2
/-! exceptions of own classes: their entries, exactly -/
namespace L2
open PySem PySem.Spec PyProof.Rows

theorem ObjOk.here {P : Program} {w : World} {H : Hp} {h : Heap} {a : Addr} {o : HO} (x : ObjOk P w H h a o) : ∃ ob, h.get? a = some ob := by
  cases o with
  | lst xs => obtain ⟨_, _, _, _, e⟩ := x; exact ⟨_, e⟩
  | tup xs => obtain ⟨_, _, _, ⟨ob, e, _⟩, _⟩ := x; exact ⟨_, e⟩
  | dK kvs => obtain ⟨_, _, _, _, o, _, _, e, _⟩ := x; exact ⟨_, e⟩
  | dT kvs => obtain ⟨_, _, _, _, o, _, _, e, _⟩ := x; exact ⟨_, e⟩
  | set S n => obtain ⟨o, _, _, _, e, _⟩ := x; exact ⟨_, e⟩
  | ins C dx fs => obtain ⟨_, _, _, e, _⟩ := x; exact ⟨_, e⟩
  | own y => exact x
  | xd fs => obtain ⟨_, ⟨_, _, _, e, _⟩, _⟩ := x; exact ⟨_, e⟩
  | rng lo hi => obtain ⟨_, _, _, e⟩ := x; exact ⟨_, e⟩
  | frz ob u => obtain ⟨e, _⟩ := x; exact ⟨_, e⟩
  | tbl ps => exact ⟨_, (show h.get? a = some _ from x)⟩
  | met f y => exact ⟨_, (show h.get? a = some _ from x)⟩
  | ext φ => obtain ⟨_, z, _⟩ := x; exact z
theorem HOk.none_of {P : Program} {w : World} {H : Hp} {h : Heap} {a : Addr} (x : HOk P w H h) (e : h.get? a = none) : H a = none := by
  cases q : H a with
  | none => rfl
  | some u =>
    obtain ⟨ob, z⟩ := (x a u q).here
    rw [e] at z; cases z

/-- an entry of an exception's path; fl: where it is in flight -/
def Entry (h : Heap) (T : Addr) (fl : Value) : Prop := ∃ oT ts, h.get? T = some oT ∧ oT.data = .fields ts ∧ ts[3]? = some fl
theorem Entry.mono {h h' : Heap} {T : Addr} {fl : Value} (x : Entry h T fl) (k : ∀ o, h.get? T = some o → h'.get? T = some o) : Entry h' T fl :=
  let ⟨oT, ts, a, b, c⟩ := x; ⟨oT, ts, k _ a, b, c⟩
def withF (oe : Obj) (vs : Array Value) : Obj := { oe with data := .fields vs }
theorem mapF {oe : Obj} {vs : Array Value} (f : Array Value → Array Value) (hd : oe.data = .fields vs) : oe.mapFields f = withF oe (f vs) := by
  obtain ⟨c, d, dt, sl⟩ := oe
  dsimp only at hd
  subst hd
  rfl
/-- what the writing of an entry leaves -/
structure Wrote (h h' : Heap) (e T : Addr) (oe : Obj) (vs : Array Value) (fs : List Addr) (S : List Addr) : Prop where
  keep : ∀ b o, h.get? b = some o → b ≠ e → b ∉ S → b ∉ fs → h'.get? b = some o
  slot : ∀ b o, h.get? b = some o → b ∈ fs → ∃ sl, h'.get? b = some { o with slots := sl }
  ex : h'.get? e = some (withF oe (vs.setIfInBounds 1 (.ref T)))
  ne : T ≠ e
  new : h.get? T = none
  ge : h.objs.size ≤ T
section
variable {M : Model} {A : Around} {E : Value → Shared → Prop} {s : Shared} {base : Heap} {env : Env} {outer : List Env} {L e : Addr} {oe : Obj} {vs : Array Value} {Q : Unit → Shared → Prop}
theorem entry_new {head : Value} {hn : Bool} (fr : A.frames = some (env :: outer)) (ff : s.heap.FunFrames base (env :: outer)) (el : env.frame = some L) (he : s.heap.get? e = some oe) (hd : oe.data = .fields vs) (sz : 1 < vs.size)
    (k : ∀ h' T, Wrote s.heap h' e T oe vs (frs (env :: outer)) [] → Entry h' T (rawInt L) → Q () { s with heap := h' }) :
    wpAny M A (do let a ← frameOf env; let pl ← entryPlaceOf L hn; let b ← EntryCells.newEntry head a .none (rawInt L) .none pl; setField (.ref e) 1 b) Q E s := by
  have nf : ∀ b ∈ frs (env :: outer), b ≠ e := fun b hb q => by
    obtain ⟨_, o, ho, z⟩ := ff.mem hb
    rw [q, he] at ho; cases ho; exact z vs hd
  refine wpAny_bind (wpAny_frameOf_fun fr ff el fun h1 sl1 => wpAny_bind (wpAny_entryPlaceOf fun pl isp => ?_))
  have e1 : h1.get? e = some oe := (sl1.2.1 e fun hm => nf e hm rfl).trans he
  unfold EntryCells.newEntry
  unfold newFields
  refine wpAny_bind (wpAny_newObj_type ?_ (isp.sizeOk5 _ _ _ _ _))
  have lt1 : e < h1.objs.size := Heap.lt_size e1
  refine wpAny_setField (Heap.get?_push_of_some _ e1) hd sz (k _ h1.objs.size ⟨fun b o q z _ zf => ?_, fun b o q zf => ?_, ?_, Nat.ne_of_gt lt1, Heap.get?_none_of_le (by rw [sl1.1]; exact Nat.le_refl _), by rw [sl1.1]; exact Nat.le_refl _⟩ ?_)
  · rw [Heap.get?_update_other _ _ (Ne.symm z)]
    exact Heap.get?_push_of_some _ ((sl1.2.1 b zf).trans q)
  · obtain ⟨sl, q1⟩ := sl1.2.2 b o q
    refine ⟨sl, ?_⟩
    rw [Heap.get?_update_other _ _ (Ne.symm (nf b zf))]
    exact Heap.get?_push_of_some _ q1
  · rw [Heap.get?_update_self _ (Heap.get?_push_of_some _ e1) (by rw [mapF _ hd]; rfl), mapF _ hd]
  · refine ⟨_, _, (Heap.get?_update_other _ _ (Nat.ne_of_lt lt1)).trans (Heap.get?_push_size h1 rfl), rfl, ?_⟩
    rcases isp with rfl | ⟨_, _, _, _, _, _, _, rfl⟩ <;> simp
/-- the first frame that is noted -/
theorem note_first (fr : A.frames = some (env :: outer)) (ff : s.heap.FunFrames base (env :: outer)) (el : env.frame = some L) (he : s.heap.get? e = some oe) (hd : oe.data = .fields vs) (v1 : vs[1]? = some .none)
    (k : ∀ h' T, Wrote s.heap h' e T oe vs (frs (env :: outer)) [] → Entry h' T (rawInt L) → Q () { s with heap := h' }) : wpAny M A (noteFrame (.ref e) env) Q E s := by
  unfold noteFrame
  simp only [el]
  refine wpAny_bind (wpAny_field he hd v1 ?_)
  rw [if_neg (by decide)]
  exact entry_new fr ff el he hd (Array.getElem?_eq_some_iff.mp v1).1 k
/-- a further frame -/
theorem note_next {T₀ : Addr} (fr : A.frames = some (env :: outer)) (ff : s.heap.FunFrames base (env :: outer)) (el : env.frame = some L) (he : s.heap.get? e = some oe) (hd : oe.data = .fields vs) (v1 : vs[1]? = some (.ref T₀)) (n0 : T₀ ≠ e) (en : Entry s.heap T₀ .none)
    (k : ∀ h' T, Wrote s.heap h' e T oe vs (frs (env :: outer)) [T₀] → Entry h' T (rawInt L) → Q () { s with heap := h' }) : wpAny M A (noteFrame (.ref e) env) Q E s := by
  obtain ⟨oT, ts, eT, dT, t3⟩ := en
  have nT : ∀ b ∈ frs (env :: outer), b ≠ T₀ := fun b hb q => by
    obtain ⟨_, o, ho, z⟩ := ff.mem hb
    rw [q, eT] at ho; cases ho; exact z ts dT
  have oth : ∀ b, b ≠ T₀ → (s.heap.update T₀ (Obj.mapFields (·.setIfInBounds 3 Value.none))).get? b = s.heap.get? b := fun b z => Heap.get?_update_other _ _ (Ne.symm z)
  unfold noteFrame
  simp only [el]
  refine wpAny_bind (wpAny_field he hd v1 ?_)
  rw [if_pos (by simp)]
  refine wpAny_bind (wpAny_field eT dT t3 ?_)
  rw [if_neg (by simp [rawInt])]
  refine wpAny_bind (wpAny_setField eT dT (Array.getElem?_eq_some_iff.mp t3).1 ?_)
  refine entry_new (s := { s with heap := s.heap.update T₀ (Obj.mapFields (·.setIfInBounds 3 Value.none)) }) fr (ff.of_keeps fun b o q z => ⟨o, (oth b fun r => ?_).trans q, rfl⟩) el ((oth e (Ne.symm n0)).trans he) hd (Array.getElem?_eq_some_iff.mp v1).1 fun h' T W en' => k h' T ⟨fun b o q z zs zf => ?_, fun b o q zf => ?_, W.ex, W.ne, ?_, ?_⟩ en'
  · rw [r, eT] at q; cases q; exact z ts dT
  · exact W.keep b o ((oth b fun r => zs (by simp [r])).trans q) z (by simp) zf
  · exact W.slot b o ((oth b (nT b zf)).trans q) zf
  · have nw := W.new
    by_cases r : T = T₀
    · subst r
      have := Heap.get?_update_self (h := s.heap) (Obj.mapFields (·.setIfInBounds 3 Value.none)) eT (by rw [mapF _ dT]; rfl)
      rw [nw] at this; cases this
    · exact (oth T r).symm.trans nw
  · have z := W.ge
    rw [show (s.heap.update T₀ (Obj.mapFields (·.setIfInBounds 3 Value.none))).objs.size = s.heap.objs.size from Heap.size_after_update ..] at z
    exact z
/-- it is no more in flight -/
theorem land {T : Addr} {fl : Value} (he : s.heap.get? e = some oe) (hd : oe.data = .fields vs) (v1 : vs[1]? = some (.ref T)) (en : Entry s.heap T fl)
    (k : ∀ h', (∀ b, b ≠ T → h'.get? b = s.heap.get? b) → Entry h' T .none → Q () { s with heap := h' }) : wpAny M A (setFlight (.ref e) none) Q E s := by
  obtain ⟨oT, ts, eT, dT, t3⟩ := en
  have z3 := (Array.getElem?_eq_some_iff.mp t3).1
  unfold setFlight
  refine wpAny_bind (wpAny_field he hd v1 ?_)
  rw [if_pos (by simp)]
  refine wpAny_setField eT dT z3 (k _ (fun b z => Heap.get?_update_other _ _ (Ne.symm z)) ?_)
  exact ⟨_, _, Heap.get?_update_self _ eT (by rw [mapF _ dT]; rfl), by rw [mapF _ dT]; rfl, by simp [z3]⟩
end

/-- an exception in flight, raised since s; T: its newest entry -/
structure Fl (P : Program) (w : World) (fs : List Addr) (H : Hp) (s : Shared) (E : XK) (a T : Addr) (H' : Hp) (oe : Obj) (vs : Array Value) (s' : Shared) : Prop where
  os : s'.os = s.os
  bare : AllBare s'.gens
  un : Un fs [] H H' s.heap s'.heap
  hok : HOk P w H' s'.heap
  ea : s'.heap.get? a = some oe
  da : oe.data = .fields vs
  v1 : vs[1]? = some (.ref T)
  v2 : vs[2]? = some .none
  ne : T ≠ a
  ent : Entry s'.heap T .none
  na : s.heap.get? a = none
  nT : s.heap.get? T = none
  fa : H' a = none
  fT : H' T = none
  ex : E oe.cls oe.dict H'
def CXE (P : Program) (w : World) : CXT := fun outer H s E e s' =>
  ∃ a T H' oe vs, e = Value.ref a ∧ Fl P w (frs outer) H s E a T H' oe vs s'

/-- what stands behind a step of the flight -/
structure Step (h h' : Heap) (S : List Addr) (fs : List Addr) : Prop where
  keep : ∀ b o, h.get? b = some o → b ∉ S → b ∉ fs → h'.get? b = some o
  slot : ∀ b o, h.get? b = some o → b ∈ fs → ∃ sl, h'.get? b = some { o with slots := sl }
theorem Step.hok {P : Program} {w : World} {H : Hp} {h h' : Heap} {S fs : List Addr} (z : Step h h' S fs) (x : HOk P w H h) (hS : ∀ b ∈ S, H b = none) (hf : ∀ b ∈ fs, H b = none) : HOk P w H h' := fun b u e => by
  have go : ∀ c v o, H c = some o → h.get? c = some v → h'.get? c = some v := fun c v o q r => z.keep c v r (fun m => by rw [hS c m] at q; cases q) fun m => by rw [hf c m] at q; cases q
  refine (x b u e).stay (fun c v hc q => ?_) (fun _ q => q) fun _ _ q => q
  rcases hc with rfl | hc
  · exact go _ _ _ e q
  · exact go _ _ _ hc q
theorem Step.un {H H' : Hp} {h₀ h h' : Heap} {S fs gs : List Addr} (z : Step h h' S gs) (u : Un gs [] H H' h₀ h) (nS : ∀ b ∈ S, h₀.get? b = none) (hs : ∀ b o, h₀.get? b = some o → b ∈ gs → b ∈ fs) : Un fs [] H H' h₀ h' := by
  have out : ∀ b o, h₀.get? b = some o → b ∉ S := fun b o e m => by rw [nS b m] at e; cases e
  refine ⟨fun b o e n hb _ => z.keep b o (u.keep b o e n (fun m => hb (hs b o e m)) (by simp)) (out b o e) fun m => hb (hs b o e m), fun b o e n hb _ => ?_, fun b o e n _ => u.free b o e n (by simp), fun b o e _ => ?_, u.tups, u.frzs, u.tbls⟩
  · obtain ⟨sl, q⟩ := u.any e n (by simp)
    by_cases m : b ∈ gs
    · obtain ⟨sl', q'⟩ := z.slot b _ q m
      exact ⟨sl', q'⟩
    · exact ⟨sl, z.keep b _ q (out b o e) m⟩
  · obtain ⟨o', q⟩ := u.there b o e (by simp)
    by_cases m : b ∈ gs
    · obtain ⟨sl', q'⟩ := z.slot b _ q m
      exact ⟨_, q'⟩
    · exact ⟨_, z.keep b _ q (out b o e) m⟩
theorem Wrote.step {h h' : Heap} {e T : Addr} {oe : Obj} {vs : Array Value} {fs S : List Addr} (W : Wrote h h' e T oe vs fs S) : Step h h' (e :: S) fs :=
  ⟨fun b o q z zf => W.keep b o q (fun r => z (by simp [r])) (fun r => z (by simp [r])) zf, W.slot⟩
theorem Step.land {h h' h'' : Heap} {S fs : List Addr} {T : Addr} (z : Step h h' S fs) (nT : h.get? T = none) (k : ∀ b, b ≠ T → h''.get? b = h'.get? b) : Step h h'' S fs := by
  have ne : ∀ b o, h.get? b = some o → b ≠ T := fun b o q r => by rw [r, nT] at q; cases q
  refine ⟨fun b o q zs zf => (k b (ne b o q)).trans (z.keep b o q zs zf), fun b o q zf => ?_⟩
  obtain ⟨sl, r⟩ := z.slot b o q zf
  exact ⟨sl, (k b (ne b o q)).trans r⟩
section
variable {X : Cx} {pins : List (Addr × Obj)} {σ : St} {H : Hp} {s s' : Shared}
theorem Inv.noex (I : Inv X pins σ H s) (hx : X.ex = []) {a : Addr} (e : s.heap.get? a = none) : X.s_0.heap.get? a = none := by
  cases q : X.s_0.heap.get? a with
  | none => rfl
  | some o =>
    obtain ⟨o', z⟩ := I.base.there a o q (by rw [hx]; simp)
    rw [e] at z; cases z
theorem Inv.unStack (I : Inv X pins σ H s) (hx : X.ex = []) (hst : X.stack = X.env :: X.outer) (hf : X.env.frame = some X.env.locals) : Un (frs X.stack) [] X.H_0 H X.s_0.heap s.heap := by
  have := I.base
  rw [hx] at this
  exact this.mono (fun b hb => by rw [hst]; unfold frs; rw [List.filterMap_cons, hf]; exact List.mem_cons_of_mem _ hb) (fun b hb => hb)
theorem Inv.stkIn (I : Inv X pins σ H s) {b : Addr} {o : Obj} (e : X.s_0.heap.get? b = some o) (hb : b ∈ frs X.stack) : b ∈ frs X.outer := by
  rcases List.mem_cons.mp (I.stkSub b hb) with q | q
  · exact absurd q (Nat.ne_of_lt (Nat.lt_of_lt_of_le (Heap.lt_size e) I.ok.above))
  · exact q
/-- the frames behind a call that was left by an exception -/
theorem Inv.stackAfter {H' : Hp} (I : Inv X pins σ H s) (u : Un (frs X.stack) [] H H' s.heap s'.heap) : s'.heap.FunFrames X.base X.stack := by
  have all : ∀ (l : List Env), (∀ b ∈ frs l, b ∈ frs X.stack) → s.heap.FunFrames X.base l → s'.heap.FunFrames X.base l := by
    intro l
    induction l with
    | nil => intro _ _; trivial
    | cons env r ih =>
      intro hs hl
      obtain ⟨hk, ⟨L, o, e, hn, ho, hd⟩, hr⟩ := hl
      have sub : ∀ b ∈ frs r, b ∈ frs (env :: r) := fun b hb => by unfold frs; rw [List.filterMap_cons, e]; exact List.mem_cons_of_mem _ hb
      have hL : L ∈ frs X.stack := hs L (by unfold frs; rw [List.filterMap_cons, e]; exact List.mem_cons_self)
      obtain ⟨sl, q⟩ := u.any ho (I.stkFree L hL) (by simp)
      exact ⟨hk, ⟨L, _, e, hn, q, hd⟩, ih (fun b hb => hs b (sub b hb)) hr⟩
  exact all X.stack (fun _ hb => hb) I.stack
theorem Inv.freeAfter {H' : Hp} (I : Inv X pins σ H s) (u : Un (frs X.stack) [] H H' s.heap s'.heap) : ∀ b ∈ frs X.stack, H' b = none := fun b hb => by
  obtain ⟨_, o, ho, _⟩ := I.stack.mem hb
  exact u.free b o ho (I.stkFree b hb) (by simp)
theorem withF_v {oe : Obj} {vs : Array Value} {T : Addr} (sz : 1 < vs.size) (v2 : vs[2]? = some .none) : (vs.setIfInBounds 1 (Value.ref T))[1]? = some (.ref T) ∧ (vs.setIfInBounds 1 (Value.ref T))[2]? = some .none :=
  ⟨by simp [sz], by rw [Array.getElem?_setIfInBounds_ne (by decide)]; exact v2⟩
/-- it leaves the frame, as one that came from a call -/
theorem Fl.leave {E E' : XK} {a T : Addr} {H' : Hp} {oe : Obj} {vs : Array Value} {M : Model} {A : Around} {Ex : Value → Shared → Prop} (I : Inv X pins σ H s) (hx : X.ex = []) (hst : X.stack = X.env :: X.outer) (hf : X.env.frame = some X.env.locals)
    (hfr : A.frames = some X.stack) (F : Fl X.prog X.w (frs X.stack) H s E a T H' oe vs s') (hE : ∀ c d h, E c d h → E' c d h) :
    wpAny M A (leaving X.env (.ref a)) (fun _ s'' => CXE X.prog X.w X.outer X.H_0 X.s_0 E' (.ref a) s'') Ex s' := by
  have sz := (Array.getElem?_eq_some_iff.mp F.v1).1
  have ff := I.stackAfter F.un
  unfold leaving
  refine wpAny_bind (note_next (hst ▸ hfr) (hst ▸ ff) hf F.ea F.da F.v1 F.ne F.ent fun h1 T1 W en => ?_)
  have w := withF_v (oe := oe) (T := T1) sz F.v2
  refine land (oe := withF oe (vs.setIfInBounds 1 (.ref T1))) W.ex rfl w.1 en fun h2 k2 en2 => ?_
  have Z : Step s'.heap h2 [a, T] (frs X.stack) := (hst ▸ W.step).land W.new k2
  have U := (I.unStack hx hst hf).trans F.un
  have na := I.noex hx F.na
  have nT := I.noex hx F.nT
  refine ⟨a, T1, H', withF oe (vs.setIfInBounds 1 (.ref T1)), _, rfl, F.os.trans I.os, F.bare, Z.un U (fun b hb => ?_) fun b o e hb => I.stkIn e hb, Z.hok F.hok (fun b hb => ?_) (I.freeAfter F.un), (k2 a (Ne.symm W.ne)).trans W.ex, rfl, w.1, w.2, W.ne, en2, na, ?_, F.fa, F.hok.none_of W.new, hE _ _ _ F.ex⟩
  · simp only [List.mem_cons, List.not_mem_nil, or_false] at hb
    rcases hb with rfl | rfl
    · exact na
    · exact nT
  · simp only [List.mem_cons, List.not_mem_nil, or_false] at hb
    rcases hb with rfl | rfl
    · exact F.fa
    · exact F.fT
  · cases r : X.s_0.heap.get? T1 with
    | none => rfl
    | some o => obtain ⟨_, z⟩ := U.there T1 o r (by simp); rw [W.new] at z; cases z
/-- it leaves the frame in which it was raised -/
theorem raise_leave {E : XK} {M : Model} {A : Around} {Ex : Value → Shared → Prop} {h' : Heap} {e C : Addr} {us : List Value} (I : Inv X pins σ H s) (hx : X.ex = []) (hst : X.stack = X.env :: X.outer) (hf : X.env.frame = some X.env.locals)
    (hfr : A.frames = some X.stack) (N : Heap.MadeExcOf s.heap h' e (.ref C) us) (hE : E (.ref C) none H) :
    wpAny M A (leaving X.env (.ref e)) (fun _ s'' => CXE X.prog X.w X.outer X.H_0 X.s_0 E (.ref e) s'') Ex { s with heap := h' } := by
  obtain ⟨t, he, ht, _⟩ := N.there
  have ff : h'.FunFrames X.base (X.env :: X.outer) := hst ▸ I.stack.of_keeps fun b o q _ => ⟨o, N.keeps b o q, rfl⟩
  unfold leaving
  refine wpAny_bind (note_first (s := { s with heap := h' }) (hst ▸ hfr) ff hf he rfl rfl fun h1 T1 W en => ?_)
  refine land (s := { s with heap := h1 }) W.ex rfl rfl en fun h2 k2 en2 => ?_
  have nT : s.heap.get? T1 = none := by
    cases q : s.heap.get? T1 with
    | none => rfl
    | some o => have := W.new; rw [show h'.get? T1 = some o from N.keeps _ _ q] at this; cases this
  have ne : ∀ b o, s.heap.get? b = some o → b ≠ e := fun b o q r => by rw [r, N.new] at q; cases q
  have Z0 : Step s.heap h1 [e] (frs X.stack) := ⟨fun b o q z zf => W.keep b o (N.keeps b o q) (ne b o q) (by simp) (hst ▸ zf), fun b o q zf => W.slot b o (N.keeps b o q) (hst ▸ zf)⟩
  have Z : Step s.heap h2 [e] (frs X.stack) := Z0.land nT k2
  have fe := I.hok.none_of N.new
  refine ⟨e, T1, H, withF _ _, _, rfl, I.os, I.bare, Z.un (I.unStack hx hst hf) (fun b hb => ?_) fun b o e hb => I.stkIn e hb, Z.hok I.hok (fun b hb => ?_) I.stkFree, (k2 e (Ne.symm W.ne)).trans W.ex, rfl, rfl, rfl, W.ne, en2, I.noex hx N.new, I.noex hx nT, fe, I.hok.none_of nT, hE⟩
  · simp only [List.mem_cons, List.not_mem_nil, or_false] at hb
    subst hb
    exact I.noex hx N.new
  · simp only [List.mem_cons, List.not_mem_nil, or_false] at hb
    subst hb
    exact fe
end
/-- an exception that was caught and stands still -/
structure ExcO (oe : Obj) (C : Addr) (d : Option Addr) : Prop where
  cls : oe.cls = .ref C
  dict : oe.dict = d
  fs : ∃ vs, oe.data = .fields vs ∧ vs[2]? = some .none
def IsExc (H : Hp) (e C : Addr) (d : Option Addr) : Prop := ∃ oe, H e = some (.frz oe (.own e)) ∧ ExcO oe C d
end L2
namespace L2
open PySem PySem.Spec PyProof.Rows
/-- a new exception of class C, raised in X: what becomes of it -/
def Rs (X : Cx) (E : XK) : Prop := ∀ (pins : List (Addr × Obj)) (σ : St) (H : Hp) (s : Shared) (h' : Heap) (e C : Addr) (vs : List Value),
  Inv X pins σ H s → Heap.MadeExcOf s.heap h' e (.ref C) vs → E (.ref C) none H → X.xe (.ref e) { s with heap := h' }
section
variable {P : Program} {w : World} {K : PySem.W.Frag} {mg : Str → Option Value} {base : Heap} {N : List Str} {qual : Str} {scope : Scope} {f : Addr} {cd : Value} {A : Around} {outer : List Env} {s : Shared} {H : Hp} {E E' : XK}
theorem rs_cx : Rs (cxOf (CXE P w) P w K mg base N qual scope f cd A outer s H E) E := fun pins σ H1 s1 h' e C vs I N hE =>
  raise_leave (A := A.deeper (envOfC qual scope s.heap.objs.size f cd)) I rfl rfl rfl I.ok.frames N hE
theorem pass_cx (hE : ∀ c d h, E' c d h → E c d h) : Passes (CXE P w) (cxOf (CXE P w) P w K mg base N qual scope f cd A outer s H E) E' := fun pins σ H1 s1 e s' I h => by
  obtain ⟨a, T, H', oe, vs, rfl, F⟩ := h
  exact Fl.leave (A := A.deeper (envOfC qual scope s.heap.objs.size f cd)) I rfl rfl rfl I.ok.frames F hE
/-- a def that may raise, by its body -/
theorem Fun.okE {x : Str} {st : Stmt} {fd : FuncData} {ps : List Str} {k : Nat} {sp : Sp} (F : Fun K x qual st f fd) (S : FnScope N ps (defScope st)) (len : ∀ vs H Q E, sp vs H Q E → vs.length = ps.length)
    (hbody : ∀ (cdv : Value) (A : Around) (outer : List Env) (s : Shared) (H : Hp) (vs : List V) (Q : VK) (E : XK), Room k (A.deeper (envOfC qual (defScope st) s.heap.objs.size f cdv)) → sp vs H Q E →
      ∃ t, QSs (cxOf (CXE P w) P w K mg base N qual (defScope st) f cdv A outer s H E) (defBody st) t ∧ t { nx := fun _ H' => Q .non H', rt := Q } (start N vs) H) : FnOk P w K mg base (CXE P w) (k + 1) f fd ps sp := by
  obtain ⟨oc, od, kV, doc, pm, an, cdv, ct, osl, rfl, lk, hcd⟩ := F.ex
  refine fn_of lk hcd S len fun A outer s H vs Q E hr hsp => ?_
  obtain ⟨t, h, q⟩ := hbody cdv A outer s H vs Q E hr hsp
  exact ⟨t, h.r, q⟩
end
/-- an own exception class, without an __init__ of its own or of those above, as it stands written -/
theorem exc_obj {K : PySem.W.Frag} {h : Heap} {C : Addr} {bmB : List Value} {newId : String} (X : K.In h) (q : PySem.W.excIn K C bmB newId = true) :
    ∃ bm N nm qn bs hdct sn sub ab col dd k0 k1 k2 k3 k5 mN, h.get? C = some (excClassObj nm qn C N bs bm hdct sn sub ab col dd k0 k1 k2 k3 k5 newId) ∧ h.Ns N mN ∧ mN "__init__" = none ∧ OwnTail h bmB bm := by
  unfold PySem.W.excIn at q
  split at q
  · rename_i dd cd sl ho
    split at q
    · rename_i D bm j0 j1 j2 j3 n j5 em es
      simp only [Bool.and_eq_true, beq_iff_eq, Bool.not_eq_true'] at q
      obtain ⟨⟨⟨⟨⟨e1, e2⟩, e3⟩, e4⟩, e5⟩, e6⟩ := q
      subst e1; subst e2
      obtain ⟨nm, bs, mro, ns, qn, hd, sn, sub, ab, col, del⟩ := cd
      obtain ⟨sl⟩ := sl
      dsimp only at em es e3 e5 e6
      subst em; subst es; subst e3
      exact ⟨bm, ns, nm, qn, bs, hd, sn, sub, ab, col, dd, j0, j1, j2, j3, j5, _, X _ _ ho, .of_isNs (PySem.W.isNs_of_in X e5), PySem.W.nsMap_none_of_in X e5 e6, PySem.W.tail_of_in X e4⟩
    · cases q
  · cases q
section
variable {X : Cx} {E : XK} {x : Str} {C : Addr} {np cpos pos : Pos} {e : Expr} {es : List Expr} {t : TA} {B newId initId : String} {bmB : List Value}
def tRaise (C : Addr) (E : XK) (t : TA) : TS := fun _ σ H => t σ H fun vs H1 => vs.length ≤ sizeLine ∧ E (.ref C) none H1
/-- raise C(e, ..) -/
theorem qs_raise (FB : ExcBaseFacts B newId initId bmB) (hq : PySem.W.excIn X.K C bmB newId = true) (rs : Rs X E) (hg : Gl X x) (hm : X.mg x = some (.ref C)) (hc : X.calm = true) (ha : QA X (e :: es) t)
    (hdb : (x == ("__debug__" : Str)) = false := by decide) (hu : (e :: es).all unstar = true := by rfl) : QS X (.Raise (some (.Call (.Name x np) (e :: es) [] cpos)) none pos) (tRaise C E t) := by
  have h' : unstar e = true ∧ es.all unstar = true := by simpa using hu
  refine ⟨fun pins s σ H D I h => ?_⟩
  obtain ⟨bm, N, nm, qn, bs, hdct, sn, sub, ab, col, dd, k0, k1, k2, k3, k5, mN, hC, hN, hni, T⟩ := exc_obj I.mod.kin hq
  refine wpAny_Raise_call_subT (C := C) (nm := nm) (q := qn) (N := N) (bs := bs) (bm := bm) (hdct := hdct) (sn := sn) (sub := sub) (ab := ab) (col := col) (dd := dd) (k0 := k0) (k1 := k1) (k2 := k2) (k3 := k3) (k5 := k5)
    FB (mN := mN) (T.hasType FB.hasBase) (I.ok.hd hc) (star_all hu) hni (ld_glob I hg hm ⟨rfl, ?_⟩ hdb)
  have hp := ha.r cpos pins s σ H _ I h
  rw [star_ns h'.1] at hp ⊢
  refine Calls.evalArgs_plain (wpAny_mono hp (fun us s2 z => ?_) fun _ _ y => y)
  obtain ⟨vs, H1, I1, r, z1, z2⟩ := z
  exact ⟨rfl, by rw [← r.length]; exact z1, I1.bk _ _ hC, hN.keeps I1.bk, T.keeps I1.bk, fun h2 a N' => rs pins σ H1 s2 h2 a C us I1 N' z2⟩
end
end L2
/-! isinstance of a caught exception -/
namespace XI
open PySem PySem.W PySem.Spec PySem.Calls PyProof.Rows Builtin Builtin.ObjectAttr Builtin.Getset_descriptor
def ExcAt (x D : Addr) (h : Heap) : Prop := ∃ o, h.get? x = some o ∧ o.cls = .ref D ∧ notCls o = true
section
variable {K : Frag} {x D : Addr}
theorem ExcAt.ty {M : Model} {h : Heap} (p : ExcAt x D h) : Looks M h (typeOf (.ref x)) (.ref D) := by
  obtain ⟨o, e, c, _⟩ := p
  exact c ▸ (Looks.ld e).andThen .now
theorem find_data {M : Model} {h : Heap} {name : Str} {a g : Value} (KX : K.In h) (f1 : findIn K (.ref D) name = some (some a)) (f2 : specialIn K a "__get__" = some (some g)) (f3 : takesIn K a = some true) :
    Looks M h (find (.ref x) (.ref D) name) (.bind g a) :=
  (looks_findIn KX f1).andThen ((looks_specialIn KX f2 : Looks M h (getOf (some a)) (some g)).andThen ((show Looks M h (dataDescriptor? (some a) (some g)) (some (g, a)) from (looks_takesIn KX f3).andThen .now).andThen (Looks.tag .now)))
variable {prog : Program} {w : World} {A : Around} {E : Value → Shared → Prop} {s : Shared}
theorem cls_call {tp : Value} {R : Result → Shared → Prop} (KX : K.In s.heap) (p : ExcAt x D s.heap) (om : mroIn K D (.type "object") = some true) (fin : R (.ok (.ret (.ref D))) s) :
    codeAny (model prog w) A (.call (.builtin "getset_descriptor.__get__") ⟨[.builtin "object.__class__", .ref x, tp], []⟩) R s := by
  obtain ⟨hp, gs, dw, tk, oz⟩ := s
  have ty0 := p.ty (M := model prog w)
  have om0 := looks_mroIn (M := model prog w) KX om
  refine codeAny_call_builtin KF.slot_gs.plain KF.entry_gs <|
    KF.slot_gs.check _ _ _ _ _ _ _ _ KF.type_class (KF.args_gs _ _ _) ?_
  unfold Builtin.«getset_descriptor.__get__» descrGet
  rw [dga_obj]
  refine wpAny_bind (wpAny_pure ?_)
  unfold descrGetter descrCheckInstance
  unfold descrNameAndClass isInstance
  simp only [KF.owner_class]
  repeat lk
  refine And.intro (Code.quiet_builtin _ (by decide +kernel)) (codeAny_builtin KF.entry_class ?_)
  unfold Builtin.«object.__class__»
  unfold shownTypeOf
  repeat lk
  exact fin
theorem ga_call {tk : Tok} {R : Result → Shared → Prop} (f1 : findIn K (.ref D) "__class__" = some (some (.builtin "object.__class__")))
    (f2 : specialIn K (.builtin "object.__class__") "__get__" = some (some (.builtin "getset_descriptor.__get__"))) (f3 : takesIn K (.builtin "object.__class__") = some true) (om : mroIn K D (.type "object") = some true) (ob : mroIn K D (.type "BaseException") = some true)
    (KX : K.In s.heap) (p : ExcAt x D s.heap) (fin : R (.ok (.ret (.ref D))) s) : codeAny (model prog w) A (.call (.builtin "BaseException.__getattribute__") ⟨[.ref x, .str "__class__" tk], []⟩) R s := by
  obtain ⟨hp, gs, dw, t, oz⟩ := s
  have ty0 := p.ty (M := model prog w)
  have ob0 := looks_mroIn (M := model prog w) KX ob
  have fd := find_data (M := model prog w) (x := x) KX f1 f2 f3
  refine codeAny_call_builtin F.excAttr_ValueError.ga.plain F.entry_bexc_ga ?_
  have hk : builtinKind "BaseException.__getattribute__" = some .slot := by decide +kernel
  have hsplit : splitId "BaseException.__getattribute__" = some ("BaseException", "__getattribute__") := by decide +kernel
  have ha := F.args_bexc_ga (.ref x) (.str "__class__" tk)
  simp only [checkBuiltinCall, hk, hsplit]
  refine wpAny_bind ?_
  unfold isInstance
  repeat (first | with_reducible refine wpAny_call (cls_call (s := ⟨hp, gs, dw, t, oz⟩) KX p om ?_) | lk)
  exact fin
theorem cls_attr {Q : Option Value → Shared → Prop} (g1 : findIn K (.ref D) "__getattribute__" = some (some (.builtin "BaseException.__getattribute__"))) (g2 : findIn K (.ref D) "__getattr__" = some none) (f1 : findIn K (.ref D) "__class__" = some (some (.builtin "object.__class__")))
    (f2 : specialIn K (.builtin "object.__class__") "__get__" = some (some (.builtin "getset_descriptor.__get__"))) (f3 : takesIn K (.builtin "object.__class__") = some true) (om : mroIn K D (.type "object") = some true) (ob : mroIn K D (.type "BaseException") = some true)
    (KX : K.In s.heap) (p : ExcAt x D s.heap) (fin : Q (some (.ref D)) { s with toks := s.toks + 1 }) : wpAny (model prog w) A (getAttr? (.ref x) "__class__") Q E s := by
  obtain ⟨hp, gs, dw, tk, oz⟩ := s
  have ty0 := p.ty (M := model prog w)
  have ga := looks_findIn (M := model prog w) KX g1
  have gh := looks_findIn (M := model prog w) KX g2
  have hx2 : (Value.builtin "BaseException.__getattribute__" == Value.builtin "object.__getattribute__") = false := by decide +kernel
  have hx1 : (onTheHeap (Value.ref D) && Value.builtin "BaseException.__getattribute__" == Value.builtin "object.__getattribute__") = false := by rw [hx2]; rfl
  unfold getAttr? getAttrBy?
  unfold getAttrBy
  refine wpAny_bind (wpAny_mkText (wpAny_bind (wpAny_attempt (wpAny_holding (wpAny_bind (ty0.at (wpAny_bind (ga.at ?_))))))))
  show wpAny _ _ (if (onTheHeap (Value.ref D) && Value.builtin "BaseException.__getattribute__" == Value.builtin "object.__getattribute__") = true then _ else _) _ _ _
  rw [if_neg (by rw [hx1]; decide)]
  unfold getAttrByItsOwn
  refine wpAny_bind ?_
  show wpAny _ _ (typeLookup (.ref D) "__getattr__") _ _ _
  refine gh.at ?_
  refine wpAny_bind (wpAny_attempt (wpAny_holding ?_))
  show wpAny _ _ (boundAndCalled _ _ _) _ _ _
  unfold boundAndCalled
  rw [F.excAttr_ValueError.ga.bind (.ref x)]
  refine wpAny_bind (wpAny_pure ?_)
  refine wpAny_call (ga_call (s := ⟨hp, gs, dw, tk + 1, oz⟩) f1 f2 f3 om ob KX p ?_)
  exact handed_on rfl (wpAny_pure fin)
theorem kitx_exc (g1 : findIn K (.ref D) "__getattribute__" = some (some (.builtin "BaseException.__getattribute__"))) (g2 : findIn K (.ref D) "__getattr__" = some none) (hc : (clsIn K D).isSome = true) (f1 : findIn K (.ref D) "__class__" = some (some (.builtin "object.__class__")))
    (f2 : specialIn K (.builtin "object.__class__") "__get__" = some (some (.builtin "getset_descriptor.__get__"))) (f3 : takesIn K (.builtin "object.__class__") = some true) (om : mroIn K D (.type "object") = some true) (ob : mroIn K D (.type "BaseException") = some true) :
    KitX K (.ref x) (.ref D) (ExcAt x D) where
  ty := fun _ _ _ p => p.ty
  it := fun _ _ KX _ => by
    unfold clsIn at hc
    split at hc
    · rename_i ho
      intro A' Q' E' s' k q
      unfold isType loadHead
      exact wpAny_bind (wpAny_loadPart (k _ _ (KX _ _ ho)) (wpAny_pure q))
    · cases hc
  ne := fun h tp dd its n sl KX htp => by
    refine Bool.eq_false_iff.mpr fun q => ?_
    have e : D = tp := Value.ref.inj (beq_iff_eq.mp q)
    subst e
    unfold clsIn at hc
    split at hc
    · rename_i ho
      have z := (KX _ _ ho).symm.trans htp
      cases z
    · cases hc
  ca := fun KX p k => cls_attr g1 g2 f1 f2 f3 om ob KX p k
end
end XI
namespace L2
open PySem PySem.Spec PyProof.Rows
/-- a class of exceptions, as it stands written -/
structure XCls (K : PySem.W.Frag) (D : Addr) : Prop where
  g1 : PySem.W.findIn K (.ref D) "__getattribute__" = some (some (.builtin "BaseException.__getattribute__"))
  g2 : PySem.W.findIn K (.ref D) "__getattr__" = some none
  hc : (PySem.W.clsIn K D).isSome = true
  f1 : PySem.W.findIn K (.ref D) "__class__" = some (some (.builtin "object.__class__"))
  f2 : PySem.W.specialIn K (.builtin "object.__class__") "__get__" = some (some (.builtin "getset_descriptor.__get__"))
  f3 : PySem.W.takesIn K (.builtin "object.__class__") = some true
  om : PySem.W.mroIn K D (.type "object") = some true
  ob : PySem.W.mroIn K D (.type "BaseException") = some true
theorem IsExc.at {P : Program} {w : World} {H : Hp} {h : Heap} {e C : Addr} {d : Option Addr} (x : IsExc H e C d) (ok : HOk P w H h) : XI.ExcAt e C h := by
  obtain ⟨oe, a, b, _, vs, q, _⟩ := x
  exact ⟨oe, (ok e _ a).1, b, by unfold PySem.W.notCls; rw [q]⟩
/-- isinstance(e, c), e a caught exception of class D; c a class -/
theorem call_isiX {X : Cx} {D : Addr} {c : V} {cv : Value} {b : Bool} (hx : XCls X.K D) (rc : ∀ u, RelV c u → u = cv) (hk : PySem.W.kitOne X.K (.ref D) cv = some b) :
    CallR X (.builtin "isinstance") (fun xs H Q => ∃ e d, xs = [.ref e, c] ∧ IsExc H e D d ∧ Q (.bl b) H) := by
  intro pins s σ H xs us Q I r h
  obtain ⟨e, d, rfl, he, q⟩ := h
  obtain ⟨u, u2, rfl, r1, r2⟩ := vals2 r
  obtain rfl : u = Value.ref e := r1
  obtain rfl := rc u2 r2
  exact PySem.W.kia_one (XI.kitx_exc hx.g1 hx.g2 hx.hc hx.f1 hx.f2 hx.f3 hx.om hx.ob) I.kIn (he.at I.hok) hk (fun z => nomatch z) fun tk => ⟨.bl b, H, I.tok _, rfl, q⟩
end L2
/-! try: one clause, an own class by its name, with a name for the exception -/
namespace XI
open PySem PySem.W PySem.Spec PySem.Calls PyProof.Rows
end XI
namespace L2
open PySem PySem.Spec PyProof.Rows
/-- a try's body: the pins of the whole statement are borne by every state -/
abbrev Cx.tr (X : Cx) (pn : List (Addr × Obj)) (xe : Value → Shared → Prop) : Cx := { X with pn := pn, xe := xe }
/-- an except suite, the exception at a being handled -/
abbrev Cx.sui (X : Cx) (a : Addr) (pn : List (Addr × Obj)) : Cx := { X with A := X.A.mark (some (.ref a)), calm := false, pn := pn, xe := fun _ _ => False }
/-- a class by whose name a clause catches -/
structure Clause (K : PySem.W.Frag) (D : Addr) : Prop where
  ty : PySem.W.typeIn K (.ref D) = some (.type "type")
  cl : (PySem.W.clsIn K D).isSome = true
  ex : PySem.W.mroIn K D (.type "BaseException") = some true
section
variable {X : Cx} {pins pins' : List (Addr × Obj)} {σ : St} {H H' : Hp} {s s' : Shared} {xe : Value → Shared → Prop} {a : Addr}
theorem Cx.Ok.tr (ok : X.Ok) {pn : List (Addr × Obj)} : (X.tr pn xe).Ok :=
  ⟨ok.mod, ok.kind, ok.glob, ok.blt, ok.above, ok.inj, ok.has, ok.cab, ok.hd, ok.frames, ok.stk, ok.exf, ok.bs, ok.bsz, ok.noex, ok.exfs, ok.funs, ok.frf⟩
theorem Cx.Ok.sui (ok : X.Ok) {pn : List (Addr × Obj)} : (X.sui a pn).Ok :=
  ⟨ok.mod, ok.kind, ok.glob, ok.blt, ok.above, ok.inj, ok.has, ok.cab, (fun z => nomatch z), ok.frames, ok.stk, ok.exf, ok.bs, ok.bsz, ok.noex, ok.exfs, ok.funs, ok.frf⟩
theorem Inv.tr (I : Inv X pins σ H s) : Inv (X.tr (X.pn ++ pins) xe) [] σ H s :=
  ⟨I.ok.tr, I.os, I.bare, I.base, I.loc, I.cell, I.free, I.freeC, fun p hp => I.pin p (by rw [List.append_nil] at hp; exact hp), I.hok, I.len⟩
theorem Inv.sui (I : Inv X pins σ H s) : Inv (X.sui a (X.pn ++ pins)) [] σ H s :=
  ⟨I.ok.sui, I.os, I.bare, I.base, I.loc, I.cell, I.free, I.freeC, fun p hp => I.pin p (by rw [List.append_nil] at hp; exact hp), I.hok, I.len⟩
/-- back, X's own facts being known -/
theorem Inv.back {A' : Around} {c : Bool} (ok : X.Ok) (I : Inv { X with A := A', calm := c, pn := X.pn ++ pins, xe := xe } pins' σ H s) : Inv X pins σ H s :=
  ⟨ok, I.os, I.bare, I.base, I.loc, I.cell, I.free, I.freeC, fun p hp => I.pin p (List.mem_append_left _ hp), I.hok, I.len⟩
theorem SP.back {A' : Around} {c : Bool} {D : Ends} {f : Flow} (ok : X.Ok) (h : SP { X with A := A', calm := c, pn := X.pn ++ pins, xe := xe } pins' D f s') : SP X pins D f s' := by
  cases f with
  | next => obtain ⟨σ', H', I, q⟩ := h; exact ⟨σ', H', I.back ok, q⟩
  | brk => obtain ⟨σ', H', I, q⟩ := h; exact ⟨σ', H', I.back ok, q⟩
  | cont => obtain ⟨σ', H', I, q⟩ := h; exact ⟨σ', H', I.back ok, q⟩
  | ret u => obtain ⟨v, σ', H', I, r, q⟩ := h; exact ⟨v, σ', H', I.back ok, r, q⟩
/-- one thing more is tracked, which is new -/
theorem Un.more {fs : List Addr} {h h' : Heap} {o : HO} (u : Un fs [] H H' h h') (na : h.get? a = none) (fa : H' a = none) : Un fs [] H (upd H' a o) h h' := by
  have ne : ∀ b ob, h.get? b = some ob → b ≠ a := fun b ob q r => by rw [r, na] at q; cases q
  refine ⟨u.keep, u.slot, fun b ob q n hx => ?_, u.there, fun b xs q => ?_, fun b ob w q => ?_, fun b ps q => ?_⟩
  · rw [upd_ne (ne b ob q)]; exact u.free b ob q n hx
  · have z := u.tups b xs q; rw [upd_ne (ne_of_none z fa)]; exact z
  · have z := u.frzs b ob w q; rw [upd_ne (ne_of_none z fa)]; exact z
  · obtain ⟨m, z⟩ := u.tbls b ps q
    exact ⟨m, by rw [upd_ne (ne_of_none z fa)]; exact z⟩
theorem HOk.more {P : Program} {w : World} {h : Heap} {o : HO} (x : HOk P w H h) (fa : H a = none) (new : ObjOk P w (upd H a o) h a o) : HOk P w (upd H a o) h := fun b u e => by
  by_cases z : b = a
  · subst z; rw [upd_same] at e; cases e; exact new
  · rw [upd_ne z] at e
    exact (x b u e).stay (fun _ _ _ q => q) (fun c q => by rw [upd_ne (ne_of_none q fa)]; exact q) fun c xs q => by rw [upd_ne (ne_of_none q fa)]; exact q
def blank (N : List Str) : St := List.replicate N.length none
/-- the exception stands still, whatever the names hold -/
theorem Inv.held {oe : Obj} {h2 : Heap} {S : List Addr} (I : Inv X pins σ H s) (os : s'.os = s.os) (bare : AllBare s'.gens) (un : Un (frs X.stack) [] H H' s.heap s'.heap) (hok : HOk X.prog X.w H' s'.heap) (Z : Step s'.heap h2 S (frs X.stack))
    (nS : ∀ b ∈ S, s.heap.get? b = none ∧ H' b = none) (na : s.heap.get? a = none) (fa : H' a = none) (ea : h2.get? a = some oe) : Inv X pins (blank X.N) (upd H' a (.frz oe (.own a))) { s' with heap := h2 } := by
  have I2 : Inv X pins σ (upd H' a (.frz oe (.own a))) { s' with heap := h2 } := I.call' (ch := []) os ((Z.un un (fun b hb => (nS b hb).1) fun _ _ _ m => m).more na fa)
    ((Z.hok hok (fun b hb => (nS b hb).2) (I.freeAfter un)).more fa ⟨ea, _, ea⟩) bare (fun _ z => nomatch z)
  refine I2.weak (by unfold blank; rw [List.length_replicate]; exact I.len.symm) fun i v e => ?_
  unfold blank at e
  rw [List.getElem?_replicate] at e
  split at e <;> cases e
end
end L2
namespace L2
open PySem PySem.Spec PyProof.Rows
/-- behind an except suite its name is gone -/
def Ends.gone (D : Ends) (i : Nat) : Ends := { nx := fun σ H => D.nx (σ.set i none) H, rt := D.rt, bk := fun σ H => D.bk (σ.set i none) H, ct := fun σ H => D.ct (σ.set i none) H }
section
variable {X : Cx} {pins : List (Addr × Obj)} {σ : St} {H H' : Hp} {s s' : Shared}
/-- the name goes -/
theorem Inv.unbound {n : Str} {i : Nat} {hpos : Pos} {Q : Unit → Shared → Prop} {A : Around} {Ex : Value → Shared → Prop} (I : Inv X pins σ H s) (hN : X.N.Nodup) (hi : X.N[i]? = some n) (hl : X.env.kindOf n = some .local)
    (k : ∀ s', Inv X pins (σ.set i none) H s' → Q () s') : wpAny (model X.prog X.w) A (do bindName X.env n .none; unbindBehindTheSuite X.env n hpos) Q Ex s := by
  refine wpAny_bind (wpAny_bindName (store_ok2 (v := .non) (i := i) I hN hi (.inl hl) rfl (fun s1 I1 _ => ?_) (.inr hl)))
  obtain ⟨m, ns1, hl1⟩ := id I1.loc
  have hp : (X.env.scope.kind == .class || (X.env.scope.kind == .module && X.env.locals != X.env.globals)) = false := by rw [I.ok.kind]; rfl
  unfold unbindBehindTheSuite
  refine wpAny_onRaise ?_
  unfold unbindName
  refine wpAny_bind (wpAny_point (wpAny_bind ?_))
  unfold deleteName
  simp only [hl, hp]
  rw [if_neg (by decide)]
  obtain ⟨u, _, lk⟩ := hl1 i n .non hi (by rw [List.getElem?_set_self (by rw [I.len]; exact (List.getElem?_eq_some_iff.mp hi).1)]) (.inl hl)
  have mn : m n = some u := by
    rcases lk with ⟨_, e⟩ | ⟨z | z, _⟩
    · exact e
    · rw [hl] at z; cases z
    · rw [hl] at z; cases z
  refine wpAny_bind (wpAny_nsDel_keeps ns1 fun h2 v2 ns2 sb => ?_)
  rw [mn]
  simp only [Option.isSome_some, Bool.not_true, Bool.false_eq_true, if_false]
  refine wpAny_pure (wpAny_point (k _ ?_))
  have neL : ∀ b o, X.s_0.heap.get? b = some o → b ≠ X.env.locals := fun b o e => Nat.ne_of_lt (Nat.lt_of_lt_of_le (Heap.lt_size e) I.ok.above)
  refine ⟨I1.ok, I1.os, I1.bare, ⟨fun b o e z hb hx => (sb.2 b (neL b o e)).trans (I1.base.keep b o e z hb hx), fun b o e z hb hx => ?_, I1.base.free, fun b o e hx => ?_, I1.base.tups, I1.base.frzs, I1.base.tbls⟩, ⟨_, ns2, fun j y w e1 e2 e3 => ?_⟩, fun y c e => ?_, I1.free, I1.freeC, fun p hp' => ?_, fun b ob e => ?_, by simpa using I1.len⟩
  · obtain ⟨sl, q⟩ := I1.base.slot b o e z hb hx
    exact ⟨sl, (sb.2 b (neL b o e)).trans q⟩
  · obtain ⟨o', q⟩ := I1.base.there b o e hx
    exact ⟨o', (sb.2 b (neL b o e)).trans q⟩
  · have hj : j ≠ i := fun z => by
      subst z
      rw [List.getElem?_set_self (by rw [I.len]; exact (List.getElem?_eq_some_iff.mp hi).1)] at e2
      cases e2
    rw [List.getElem?_set_ne (Ne.symm hj)] at e2
    obtain ⟨u', r', q⟩ := hl1 j y w e1 (by rw [List.getElem?_set_ne (Ne.symm hj)]; exact e2) e3
    refine ⟨u', r', ?_⟩
    rcases q with ⟨kk, e⟩ | ⟨kk, c, e, z⟩
    · refine .inl ⟨kk, ?_⟩
      have ny : y ≠ n := fun z => hj (nodup_ix hN e1 (z ▸ hi))
      exact (if_neg ny).trans e
    · exact .inr ⟨kk, c, e, z.sameBut sb (I1.cne y c e)⟩
  · obtain ⟨w', z⟩ := I1.cell y c e
    exact ⟨w', z.sameBut sb (I1.cne y c e)⟩
  · obtain ⟨e, z, ne, nf, d⟩ := I1.pin p hp'
    exact ⟨(sb.2 p.1 ne).trans e, z, ne, nf, d⟩
  · have out : ∀ c o, H c = some o → c ≠ X.env.locals := fun c o q z => by rw [z, I1.free] at q; cases q
    refine (I1.hok b ob e).stay (fun c w' hc q => (sb.2 c ?_).trans q) (fun _ q => q) fun _ _ q => q
    rcases hc with rfl | hc
    · exact out _ _ e
    · exact out _ _ hc
end
end L2
namespace L2
open PySem PySem.Spec PyProof.Rows
section
variable {X : Cx} {pins : List (Addr × Obj)} {σ : St} {H : Hp} {s : Shared}
end
end L2
namespace L2
open PySem PySem.Spec PyProof.Rows
section
variable {X : Cx} {Dc : Addr} {y n : Str} {i : Nat} {np hpos pos : Pos} {body suite : List Stmt} {b₀ : Stmt}
/-- an address that is new behind what X has seen -/
theorem Inv.newT {pins : List (Addr × Obj)} {σ : St} {H H' : Hp} {s s' : Shared} {T : Addr} (I : Inv X pins σ H s) (un : Un (frs X.stack) [] H H' s.heap s'.heap) (ge : s'.heap.objs.size ≤ T) :
    T ≠ X.env.locals ∧ T ∉ X.fs ∧ (T ∈ X.ex ∨ X.s_0.heap.objs.size ≤ T) ∧ (∀ x c, X.env.cells.lookup x = some c → c ≠ T) ∧ ∀ p ∈ X.pn ++ pins, p.1 ≠ T := by
  have lt : ∀ b o, s.heap.get? b = some o → b < T := fun b o e => by
    obtain ⟨o', q⟩ := un.there b o e (by simp)
    exact Nat.lt_of_lt_of_le (Heap.lt_size q) ge
  obtain ⟨m, ⟨oL, _, _, hL, _⟩, _⟩ := id I.loc
  have l1 := lt _ _ hL
  refine ⟨Nat.ne_of_gt l1, fun hb => ?_, .inr (Nat.le_trans I.ok.above (Nat.le_of_lt l1)), fun x c e z => ?_, fun p hp z => ?_⟩
  · obtain ⟨_, o, ho, _⟩ := I.funs.mem hb
    exact absurd (lt _ _ ho) (Nat.lt_irrefl _)
  · obtain ⟨v, o, ho, _⟩ := I.cell x c e
    exact absurd (z ▸ lt _ _ ho) (Nat.lt_irrefl _)
  · exact absurd (z ▸ lt _ _ (I.pin p hp).1) (Nat.lt_irrefl _)
end
end L2
/-! a range's end while an exception is handled -/
namespace HN
open PySem PySem.W PySem.Spec PySem.Calls PyProof.Rows
section
variable {prog : Program} {w : World} {A : Around} {E : Value → Shared → Prop} {s : Shared}
end
end HN
namespace L2
open PySem PySem.Spec PyProof.Rows
/-- an exception is handled, whose context is None; it was caught ahead of the entry and stands still -/
def Hand (X : Cx) : Prop := ∃ a oe vs, X.A.handled = some (.ref a) ∧ X.H_0 a = some (.frz oe (.own a)) ∧ oe.data = .fields vs ∧ vs[2]? = some .none
theorem Hand.blk {X : Cx} {pins : List (Addr × Obj)} {σ : St} {H : Hp} {s s3 : Shared} {scope : Scope} {cenv : Env} {fp : List Addr} (h : Hand X) (I : Inv X pins σ H s) : Hand (X.blk s3 H scope cenv fp) := by
  obtain ⟨a, oe, vs, h1, h2, h3⟩ := h
  exact ⟨a, oe, vs, h1, I.base.frzs a _ _ h2, h3⟩
structure TurnH (P : Program) (w : World) (K : PySem.W.Frag) (tg : Expr) (J : It) (fp : List Addr) (it : Addr) (tn : Nat → Heap → Prop) : Prop where
  mem : it ∈ fp
  obj : ∀ i h, tn i h → ∀ b ∈ fp, ∃ o, h.get? b = some o ∧ ∀ v, o.data ≠ .cell v
  keep : ∀ i h h', tn i h → (∀ b ∈ fp, ∀ o, h.get? b = some o → h'.get? b = some o) → tn i h'
  item : ∀ (X : Cx), X.prog = P → X.w = w → X.K = K → Hand X → ∀ (i : Nat) (pins : List (Addr × Obj)) (s : Shared) (σ : St) (H : Hp) (E : Value → Shared → Prop), Inv X pins σ H s → (∀ b ∈ fp, FpOk X pins H b) → tn i s.heap → J.go i H →
    wpAny (model P w) X.A (pyNext (.ref it)) (fun r s1 => ∃ u, r = some u ∧
      wpAny (model P w) X.A (letOwnedTupleGo tg (.ref it) u) (fun _ s2 => ∃ x H', Inv X pins σ H' s2 ∧ RelV x u ∧ J.yld i H x H' ∧ tn (i + 1) s2.heap ∧ ∀ b ∈ fp, H' b = none) E s1) E s
  done : ∀ (X : Cx), X.prog = P → X.w = w → X.K = K → Hand X → ∀ (i : Nat) (pins : List (Addr × Obj)) (s : Shared) (σ : St) (H : Hp) (E : Value → Shared → Prop), Inv X pins σ H s → (∀ b ∈ fp, FpOk X pins H b) → tn i s.heap → J.stop i H →
    wpAny (model P w) X.A (pyNext (.ref it)) (fun r s1 => r = none ∧ Inv X pins σ H s1) E s
  self : ∀ (A : Around) (i : Nat) (s : Shared) (Q : Value → Shared → Prop) (E : Value → Shared → Prop), tn i s.heap → Q (.ref it) s → wpAny (model P w) A (pyIter (.ref it)) Q E s
section
variable {X : Cx} {tg : Expr}
end
section
variable {X : Cx}
end
end L2
namespace L2
open PySem PySem.Spec PyProof.Rows
structure RoomH (k : Nat) (A : Around) : Prop where
  dp : A.depth + 3 * k + 5 < recursionLimit
  un : A.units + 16 * k + 200 < cLine
  gd : A.guards = some []
theorem RoomH.mono {j k : Nat} {A : Around} (r : RoomH k A) (h : j ≤ k) : RoomH j A := ⟨by have := r.dp; omega, by have := r.un; omega, r.gd⟩
theorem RoomH.deeper {k : Nat} {A : Around} (r : RoomH (k + 1) A) (env : Env) : RoomH k (A.deeper env) :=
  ⟨by have := r.dp; show A.depth + 1 + 3 * k + 5 < _; omega, by have := r.un; show A.units + 3 + 16 * k + 200 < _; omega, r.gd⟩
theorem RoomH.depth {k : Nat} {A : Around} (r : RoomH k A) : A.depth < recursionLimit := by have := r.dp; omega

theorem Room.h {k : Nat} {A : Around} (r : Room k A) : RoomH k A := ⟨r.dp, r.un, r.gd⟩
theorem RoomH.mark {k : Nat} {A : Around} {o : Option Value} (r : RoomH k A) : RoomH k (A.mark o) := ⟨r.dp, r.un, r.gd⟩
/-- at a call: an exception is handled, whose context is None, and stands still -/
def HandAt (A : Around) (H : Hp) : Prop := ∃ a oe vs, A.handled = some (.ref a) ∧ H a = some (.frz oe (.own a)) ∧ oe.data = .fields vs ∧ vs[2]? = some .none
theorem Hand.at_ {X : Cx} {pins : List (Addr × Obj)} {σ : St} {H : Hp} {s : Shared} (h : Hand X) (I : Inv X pins σ H s) : HandAt X.A H := by
  obtain ⟨a, oe, vs, h1, h2, h3⟩ := h
  exact ⟨a, oe, vs, h1, I.base.frzs a _ _ h2, h3⟩
structure FnOkH (P : Program) (w : World) (K : PySem.W.Frag) (mg : Str → Option Value) (base : Heap) (CX : CXT) (k : Nat) (f : Addr) (fd : FuncData) (ps : List Str) (sp : Sp) : Prop where
  len : ∀ vs H Q E, sp vs H Q E → vs.length = ps.length
  run : ∀ (A : Around) (outer : List Env) (s : Shared) (H : Hp) (args : Args) (us : List Value) (vs : List V) (Q : VK) (E : XK), RoomH k A → HandAt A H → Env0 P w K mg base A outer s H → BindsTo s fd args (ps.zip us) → Vals vs us → sp vs H Q E →
    codeAny (model P w) A (.call (.ref f) args) (CR CX outer P w H s Q E) s
section
variable {X : Cx} {CX : CXT} {k : Nat} {f C : Addr} {fd : FuncData} {ps : List Str} {sp : Sp} {dvs : List V} {ds : List Value} {E : XK} {x m : Str} {p pos apos : Pos} {e o : Expr} {es : List Expr} {ta : TE} {t : TA}
end

section
variable {P : Program} {w : World} {K : PySem.W.Frag} {mg : Str → Option Value} {base : Heap} {N : List Str} {qual : Str} {scope : Scope} {f : Addr} {cd : Value} {A : Around} {outer : List Env} {s : Shared} {H : Hp} {E E' : XK}
end
end L2
/-! what the telling of a refusal's class wants: lists of isinstance, list.count of truths, a choice out of a range -/
namespace L2
open PySem PySem.Spec PyProof.Rows
section
variable {X : Cx} {K : PySem.W.Frag} {e : Expr} {es : List Expr} {pos p q : Pos} {D : Addr} {nm : Str}
end
end L2
/-! methods of built-in things, wrapped, what they ask of written trees shown by cases -/
namespace L2
open PySem PySem.Spec PyProof.Rows
theorem RoomH.units {k : Nat} {A : Around} (r : RoomH k A) : A.units + 64 < cLine := by have := r.un; omega
def notCall : Expr → Bool
  | .Call _ _ _ _ => false
  | _ => true
theorem base_no {o : Expr} {m : Str} {env : Env} (h : notCall o = true) : attributeBase o m env (eval o env) = eval o env := by
  cases o <;> first | rfl | cases h
section
variable {X : Cx} {o e f : Expr} {to te tf : TE} {apos cpos pos : Pos}
theorem few1 {env : Env} (hu : unstar e = true) : ((backTo cpos (starEach [e] env)).all (fun x => !x.1) && (backToKw cpos (keywordEach [] env)).all (fun x => x.1.isSome)
      && decide (([e] : List Expr).length + ([] : List Keyword).length + (if ([] : List Keyword).isEmpty then 0 else 1) < 30)) = true := by
  rw [star_ns hu, PySem.starEach.eq_1, PySem.keywordEach.eq_1]
  rfl
theorem q_bm1 {T : String} {name : Str} {id : String} {r : V → List V → Hp → VK → Prop} (pa : PlainAttrs T) (slot : Slot T name id) (hty : typeOf (.builtin id) = pure (.type "method_descriptor")) (hm : MtR X id r) (ho : QE X o to) (he : QE X e te)
    (hn : notCall o = true := by rfl) (hu : unstar e = true := by rfl) (hline : (apos.endLine == cpos.line) = true := by rfl) : QE X (.Call (.Attribute o name apos) [e] [] cpos) (tBM X.K T r to (tCons te tNil)) := by
  have hs := star_ns (e := e) (es := []) (env := X.env) hu
  exact ⟨pe_bm pa slot hty hm ho.r (pa_cons he.r pa_nil hs) (base_no hn) (few1 hu) hline hs (by rw [PySem.starEach.eq_1]; rfl)⟩
theorem qs_app (ho : QE X o to) (he : QE X e te) (hn : notCall o = true := by rfl) (hu : unstar e = true := by rfl) (hline : (apos.endLine == cpos.line) = true := by rfl) :
    QS X (.Expr (.Call (.Attribute o "append" apos) [e] [] cpos) pos) (tDrop (tBM X.K "list" rAppend to (tCons te tNil))) :=
  ⟨ps_expr (q_bm1 PySem.F.plainAttrs_list PySem.F.slot_list_append PySem.F.type_list_append mt_append ho he hn hu hline).r (sw_no rfl)⟩
/-- a written dict, its pairs wrapped -/
structure QPs (X : Cx) (pos : Pos) (keys : List (Option Expr)) (values : List Expr) (trs : List (TE × TE)) : Prop where
  r : PPs X pos keys values trs
theorem q_ifx {c : Expr} {tc : TT} (hc : QT X c tc) (ha : QE X e te) (hb : QE X f tf) : QE X (.IfExp c e f pos) (tIf tc te tf) := ⟨pe_ifExp hc.r ha.r hb.r⟩
end
end L2
/-! enumerate(a tuple) -/
namespace ET
open PySem
open AutoSeq1 (wpAny_loadPart')
theorem made (l : Addr) (items : Array Value) :
    Meets (Builtin.«enumerate.__new__» ⟨[.type "enumerate", .ref l], []⟩) (fun _ R s => s.heap.IsTuple l items ∧
      R (.ok (.ret (.ref (s.heap.push { cls := .type "tuple_iterator", data := .fields #[.ref l, .int 0 0] }).objs.size)))
        { s with heap := (s.heap.push { cls := .type "tuple_iterator", data := .fields #[.ref l, .int 0 0] }).push { cls := .type "enumerate", data := .fields #[.none, .bool false, .ref s.heap.objs.size, rawInt 0, .none, .none] } }) :=
  .of_wp fun prog w A R s h => by
    obtain ⟨hp, g, d, tk, os⟩ := s; obtain ⟨hl, h⟩ := h
    have hsub := sub_enumerate
    have hL : Heap.IsTuple (Shared.heap ⟨hp, g, d, tk, os⟩) l items := hl
    obtain ⟨o, ho, hc, _⟩ := id hl
    wp_walk
    refine wpAny_stack_any fun st => wpAny_pure ?_
    split
    · rename_i c _ _ _ _ _
      cases (c == Value.type "enumerate")
      · wp_walk using wpAny_pyIter_tuple hL
        exact ⟨_, rfl, h⟩
      · wp_walk using wpAny_pyIter_tuple hL
        exact ⟨_, rfl, h⟩
    · wp_walk using wpAny_pyIter_tuple hL
      exact ⟨_, rfl, h⟩
section
variable {prog : Program} {w : World} {A : Around} {E : Value → Shared → Prop} {s : Shared}
end
end ET
namespace L2
open PySem PySem.Spec PyProof.Rows
theorem qss_cut {X : Cx} {st : Stmt} {rest : List Stmt} {t u : TS} (h1 : QS X st t) (h2 : QSs X rest u) : QSs X (st :: rest) (tCut t u) := ⟨pss_cut h1.r h2.r⟩
theorem qs_for {X : Cx} {tg iter : Expr} {body : List Stmt} {wi : TI} {g : TG} {tb : TS} {pos : Pos} (hp : PassesOwn (model X.prog X.w) X.A X.env X.xe) (hc : X.calm = true) (hi : PI X tg iter wi) (hg : PG X tg g) (hb : QSs X body tb)
    (hs : ∀ x, foldedSetIterable iter X.env x = pure x := by intro _; rfl) : QS X (.For tg iter body [] pos) (tFor wi g tb) := ⟨ps_for hp hc hi hg hb.r hs⟩
theorem qr {X : Cx} {e : Expr} {t : TE} (h : QE X e t) : PE X e t := h.r
end L2
/-! t * k, a tuple -/
namespace TM
open PySem Builtin
theorem noFill : fillsNumberSlot (.type "tuple") "mul" = pure false :=
  fillsNumberSlot_seq (id := "tuple.__mul__") (r := some (.builtin "tuple.__rmul__")) F.slot_tuple_mul.lookup (by decide +kernel) F.slot_tuple_rmul.lookup (by decide +kernel)
theorem rep : seqRepeat? (.type "tuple") = pure (some (.builtin "tuple.__mul__")) := by
  unfold seqRepeat?
  rw [seqSlot_of (T := "tuple") (name := "__mul__") (id := "tuple.__mul__") F.slot_tuple_mul.lookup (by decide +kernel), seqSlot_of (T := "tuple") (name := "__rmul__") (id := "tuple.__rmul__") F.slot_tuple_rmul.lookup (by decide +kernel)]
  rfl
section
variable {prog : Program} {w : World} {A : Around} {E : Value → Shared → Prop} {s : Shared}
theorem rmulW (k : Int) (t : Tok) (l : Addr) (items : Array Value) (n : Nat) (dd : Option Addr) (sl : Array (Option Value)) :
    Meets (Builtin.«int.__rmul__» ⟨[.int k t, .ref l], []⟩) (fun _ R s => s.heap.get? l = some { cls := .type "tuple", dict := dd, data := .seq items n, slots := sl } ∧ R (.ok (.ret Value.notImplemented)) s) :=
  .of_wp fun prog w A R s h => by obtain ⟨hp, g, d, tk, os⟩ := s; obtain ⟨hl, h⟩ := h; wp_walk; exact ⟨_, rfl, h⟩
theorem mulW1 (t : Tok) (l : Addr) (items : Array Value) (n : Nat) (dd : Option Addr) (sl : Array (Option Value)) (hne : ¬ items.isEmpty = true) :
    Meets (Builtin.«tuple.__mul__» ⟨[.ref l, .int 1 t], []⟩) (fun _ R s => s.heap.get? l = some { cls := .type "tuple", dict := dd, data := .seq items n, slots := sl } ∧ R (.ok (.ret (.ref l))) s) :=
  .of_wp fun prog w A R s h => by obtain ⟨hp, g, d, tk, os⟩ := s; obtain ⟨hl, h⟩ := h; wp_walk; exact ⟨_, rfl, h⟩
theorem mulW2 (k : Int) (t : Tok) (l : Addr) (items : Array Value) (n : Nat) (dd : Option Addr) (sl : Array (Option Value)) (hne : ¬ items.isEmpty = true) (hk : (k == 1) = false) (hk0 : ¬ k ≤ 0) (hf : ¬ (decide (k < -(2 ^ 63)) || decide (k ≥ 2 ^ 63)) = true)
    (hm : ¬ ((items.size : Int) * k > (2 ^ 63 - 1) / 8)) (hs : ¬ Builtin.Tuple.tupleTooMany ((items.size : Int) * k) = true) (hz : ((List.replicate k.toNat items).foldl (· ++ ·) #[]).size ≤ sizeLine) :
    Meets (Builtin.«tuple.__mul__» ⟨[.ref l, .int k t], []⟩) (fun _ R s => s.heap.get? l = some { cls := .type "tuple", dict := dd, data := .seq items n, slots := sl } ∧
      R (.ok (.ret (.ref s.heap.objs.size))) { s with heap := s.heap.push { cls := .type "tuple", data := .seq ((List.replicate k.toNat items).foldl (· ++ ·) #[]) } }) :=
  .of_wp fun prog w A R s h => by
    obtain ⟨hp, g, d, tk, os⟩ := s; obtain ⟨hl, h⟩ := h
    have he : items.isEmpty = false := Bool.eq_false_iff.mpr hne
    have c1 : ¬ (items.isEmpty || k == 1) = true := by rw [he, hk]; decide
    have c2 : ¬ (decide (k ≤ 0) || items.isEmpty) = true := by rw [he, decide_eq_false hk0]; decide
    wp_walk
    rw [if_neg hf]
    wp_walk
    rw [if_neg hm]
    dsimp only
    rw [if_neg hs]
    wp_walk
    exact ⟨_, rfl, h⟩
end
end TM
namespace L2
open PySem PySem.Spec PyProof.Rows
/-- t * k, t not empty, k at least 1 -/
def rRepT (K : PySem.W.Frag) : R2 := fun x y H Q => ∃ a k xs, x = .ref a ∧ y = .int k ∧ SqT K H a xs ∧ xs ≠ [] ∧ 1 ≤ k ∧ xs.length * k.toNat ≤ sizeLine ∧
  (k = 1 → Q (.ref a) H) ∧ (k ≠ 1 → ∀ p, H p = none → Q (.ref p) (upd H p (.tup (List.replicate k.toNat xs).flatten)))
theorem op_repT {X : Cx} : OpR X (binaryOp .Mult) (rRepT X.K) := by
  intro pins s σ H x y v u Q I rx ry h
  obtain ⟨a, k, xs, rfl, rfl, ha, hx, hk, hz, q1, q2⟩ := h
  cases rx
  obtain ⟨t, rfl⟩ := ry
  obtain ⟨its, r, p, _⟩ := I.tuple ha
  have hl := r.length
  obtain ⟨⟨cls, dd, data, sl⟩, ho, hc, n, hd⟩ := id p
  simp only at hc hd
  subst hc hd
  have hne : ¬ its.toArray.isEmpty = true := by
    have : its ≠ [] := fun z => hx (r.nil_iff.mp z)
    simpa using this
  have hpos : 0 < its.length := by
    rw [← hl]
    exact List.length_pos_iff.mpr hx
  have big : sizeLine = 16777216 := sizeLine_eq
  have hsz : its.toArray.size = its.length := List.size_toArray
  have hz' : its.length * k.toNat ≤ sizeLine := by rw [← hl]; exact hz
  have hkn : k.toNat ≤ sizeLine := by
    have : 1 * k.toNat ≤ its.length * k.toNat := Nat.mul_le_mul_right _ hpos
    omega
  have hsk : ((its.toArray.size : Nat) : Int) * k = ((its.length * k.toNat : Nat) : Int) := by
    rw [hsz, Int.natCast_mul, Int.toNat_of_nonneg (by omega)]
  have hrep : (List.replicate k.toNat its.toArray).foldl (· ++ ·) #[] = (List.replicate k.toNat its).flatten.toArray := by
    have := foldl_rep its k.toNat []
    rw [List.nil_append] at this
    exact this
  have hrl : (List.replicate k.toNat its).flatten.length = k.toNat * its.length := len_rep its k.toNat
  refine wpAny_binaryOp_repeat_ref (T := "tuple") (U := "int") (by decide) ⟨_, ho, rfl⟩ (fun s' => typeIs_int s' k t) TM.noFill F.fills_int_mul F.slot_int_rmul TM.rep F.slot_int_index.lookup
    (call_meets F.slot_int_rmul (typeIs_int s k t) F.entry_int_rmul (F.args_int_rmul_2 _ _) (TM.rmulW k t a its.toArray n dd sl) ⟨ho, rfl, ⟨_, ho, rfl⟩, ?_⟩)
  by_cases k1 : k = 1
  · subst k1
    exact call_meets F.slot_tuple_mul ⟨_, ho, rfl⟩ F.entry_tuple_mul (F.args_tuple_mul_2 _ _) (TM.mulW1 t a its.toArray n dd sl hne) ⟨ho, ⟨.ref a, H, I, rfl, q1 rfl⟩⟩
  · refine call_meets F.slot_tuple_mul ⟨_, ho, rfl⟩ F.entry_tuple_mul (F.args_tuple_mul_2 _ _) (TM.mulW2 k t a its.toArray n dd sl hne (by simpa using k1) (by omega) ?_ ?_ ?_ ?_) ⟨ho, ?_⟩
    · rw [decide_eq_false (by omega), decide_eq_false (by omega)]
      decide
    · rw [hsk]
      rw [big] at hz'
      omega
    · unfold Builtin.Tuple.tupleTooMany
      rw [hsk, decide_eq_false (by omega)]
      decide
    · rw [hrep, List.size_toArray, hrl, Nat.mul_comm]
      exact hz'
    · rw [hrep]
      have vr : Vals (List.replicate k.toNat xs).flatten (List.replicate k.toNat its).flatten := by
        generalize k.toNat = m
        induction m with
        | zero => exact .nil
        | succ m ih =>
          rw [List.replicate_succ, List.replicate_succ, List.flatten_cons, List.flatten_cons]
          exact r.append ih
      refine ⟨.ref s.heap.objs.size, _, I.laid (t' := s.toks) (o := .tup (List.replicate k.toNat xs).flatten) (fun b ob q => Heap.get?_push_of_some _ q) (Nat.le_refl _) ?_, rfl, q2 k1 _ (I.hok.fresh (Nat.le_refl _))⟩
      exact ⟨by rw [len_rep, Nat.mul_comm]; exact hz, _, vr, IsTup.new _ _, _, Heap.get?_push_size _ rfl, rfl⟩
theorem paired_at {α β : Type} {F : α → β → Prop} : ∀ {l : List α} {m : List β} {i : Nat} {x : α} {y : β}, Paired F l m → l[i]? = some x → m[i]? = some y → F x y
  | _, _, i, _, _, .nil, e, _ => by simp at e
  | _, _, 0, _, _, .cons q _, e, e' => by simp at e e'; subst e e'; exact q
  | _, _, i + 1, _, _, .cons _ t, e, e' => paired_at (i := i) t (by simpa using e) (by simpa using e')
/-- [b(x) for x in t], what the items hold in a relation -/
theorem lq_T {α : Type} {K : PySem.W.Frag} {a D : Addr} {xs : List V} {as : List α} {i : Nat} {te : TE} {vs : List Nat} {σ : L2.St} {H1 : Hp} {Qd : Hp → Prop} (F : V → α → Prop) (b : α → V) (hx : SqT K H1 a xs) (hp : Paired F xs as) (hn : xs.length < sizeLine) (hD : H1 D = none) (hw : ∀ v, wipe ((wipe σ vs).set i (some v)) vs = wipe σ vs)
    (he : ∀ x z H (Q : VK), z ∈ as → F x z → Same H1 H → (∀ H', Same H H' → Q (b z) H') → te ((wipe σ vs).set i (some x)) H Q) (hd : ∀ H, Same H1 H → H D = some (.lst (as.map b)) → Qd H) :
    ∃ W : Nat → Nat → Hp → Prop, (∃ m, W 0 m (upd H1 D (.lst []))) ∧ ∀ i' m H, W i' m H →
      ((Itt K a).stop i' H ∧ Qd H) ∨ ((Itt K a).go i' H ∧ ∃ Nx : Hp → Prop, (∀ H', Nx H' → ∃ m', m' < m ∧ W (i' + 1) m' H') ∧ ∀ x H', (Itt K a).yld i' H x H' → gName i x (wipe σ vs) H' fun σ2 H2 => wipe σ2 vs = wipe σ vs ∧ tYes σ2 H2 fun b H3 =>
        if b = true then te σ2 H3 fun y H4 => ∃ acc, H4 D = some (.lst acc) ∧ acc.length < sizeLine ∧ Nx (upd H4 D (.lst (acc ++ [y]))) else Nx H3) := by
  have len : xs.length = as.length := Paired.length hp
  refine lc_tup (K := K) (a := a) (xs := xs) (fun k H => Same H1 H ∧ H D = some (.lst ((as.take k).map b))) ⟨sameN hD _, upd_same⟩ (fun k H _ h => h.1.seqT hx) ?_ ?_
  · rintro k x H hk ⟨s, e⟩
    have hlt : k < xs.length := (List.getElem?_eq_some_iff.mp hk).1
    have hz : as[k]? = some (as[k]'(by omega)) := List.getElem?_eq_getElem (by omega)
    have fz : F x (as[k]'(by omega)) := paired_at hp hk hz
    refine ⟨hw x, yesT (he x _ H _ (mem_of_get hz) fz s fun H' s' => ⟨_, s' _ _ e, ?_, same_upd (s.trans s') hD, ?_⟩)⟩
    · rw [List.length_map, List.length_take]
      omega
    · rw [upd_same, take_step hz, List.map_append]
      rfl
  · rintro H ⟨s, e⟩
    rw [len, List.take_length] at e
    exact hd H s e
/-- [b(x) for x in l], what the items hold in a relation -/
theorem lq_L {α : Type} {K : PySem.W.Frag} {a D : Addr} {xs : List V} {as : List α} {i : Nat} {te : TE} {vs : List Nat} {σ : L2.St} {H1 : Hp} {Qd : Hp → Prop} (F : V → α → Prop) (b : α → V) (hx : SqL K H1 a xs) (hp : Paired F xs as) (hn : xs.length < sizeLine) (hD : H1 D = none) (hw : ∀ v, wipe ((wipe σ vs).set i (some v)) vs = wipe σ vs)
    (he : ∀ x z H (Q : VK), z ∈ as → F x z → Same H1 H → (∀ H', Same H H' → Q (b z) H') → te ((wipe σ vs).set i (some x)) H Q) (hd : ∀ H, Same H1 H → H D = some (.lst (as.map b)) → Qd H) :
    ∃ W : Nat → Nat → Hp → Prop, (∃ m, W 0 m (upd H1 D (.lst []))) ∧ ∀ i' m H, W i' m H →
      ((Itl K a).stop i' H ∧ Qd H) ∨ ((Itl K a).go i' H ∧ ∃ Nx : Hp → Prop, (∀ H', Nx H' → ∃ m', m' < m ∧ W (i' + 1) m' H') ∧ ∀ x H', (Itl K a).yld i' H x H' → gName i x (wipe σ vs) H' fun σ2 H2 => wipe σ2 vs = wipe σ vs ∧ tYes σ2 H2 fun b H3 =>
        if b = true then te σ2 H3 fun y H4 => ∃ acc, H4 D = some (.lst acc) ∧ acc.length < sizeLine ∧ Nx (upd H4 D (.lst (acc ++ [y]))) else Nx H3) := by
  have len : xs.length = as.length := Paired.length hp
  refine lc_list (K := K) (a := a) (xs := xs) (fun k H => Same H1 H ∧ H D = some (.lst ((as.take k).map b))) ⟨sameN hD _, upd_same⟩ (fun k H _ h => h.1.seqL hx) ?_ ?_
  · rintro k x H hk ⟨s, e⟩
    have hlt : k < xs.length := (List.getElem?_eq_some_iff.mp hk).1
    have hz : as[k]? = some (as[k]'(by omega)) := List.getElem?_eq_getElem (by omega)
    have fz : F x (as[k]'(by omega)) := paired_at hp hk hz
    refine ⟨hw x, yesT (he x _ H _ (mem_of_get hz) fz s fun H' s' => ⟨_, s' _ _ e, ?_, same_upd (s.trans s') hD, ?_⟩)⟩
    · rw [List.length_map, List.length_take]
      omega
    · rw [upd_same, take_step hz, List.map_append]
      rfl
  · rintro H ⟨s, e⟩
    rw [len, List.take_length] at e
    exact hd H s e
/-- a set of the numbers of a list's things: who is in it, how many -/
structure SetIs {α : Type} (as : List α) (c : α → Int) (S : Int → Bool) (n : Nat) : Prop where
  mem : ∀ j, S j = true ↔ ∃ z ∈ as, c z = j
  zero : n = 0 ↔ as = []
  one : n ≤ 1 ↔ ∀ y ∈ as, ∀ z ∈ as, c y = c z
  le : n ≤ as.length
theorem SetIs.nil {α : Type} {c : α → Int} : SetIs ([] : List α) c (fun _ => false) 0 := ⟨fun j => by simp, by simp, by simp, Nat.le_refl _⟩
theorem SetIs.snoc {α : Type} {as : List α} {c : α → Int} {S : Int → Bool} {n : Nat} {x : α} (h : SetIs as c S n) : SetIs (as ++ [x]) c (fun k => S k || decide (k = c x)) (if S (c x) then n else n + 1) := by
  refine ⟨fun j => ?_, ?_, ?_, ?_⟩
  · rw [Bool.or_eq_true, h.mem j, decide_eq_true_iff]
    constructor
    · rintro (⟨z, hz, e⟩ | e)
      · exact ⟨z, List.mem_append_left _ hz, e⟩
      · exact ⟨x, by simp, e.symm⟩
    · rintro ⟨z, hz, e⟩
      rcases List.mem_append.mp hz with hz | hz
      · exact .inl ⟨z, hz, e⟩
      · rw [List.mem_singleton.mp hz] at e
        exact .inr e.symm
  · constructor
    · intro z
      by_cases c1 : S (c x) = true
      · rw [if_pos c1] at z
        obtain ⟨y, hy, _⟩ := (h.mem _).mp c1
        rw [h.zero.mp z] at hy
        simp at hy
      · rw [if_neg c1] at z
        omega
    · intro z
      simp at z
  · by_cases c1 : S (c x) = true
    · rw [if_pos c1, h.one]
      obtain ⟨w, hw, ew⟩ := (h.mem _).mp c1
      constructor
      · intro a y hy z hz
        have f : ∀ y ∈ as ++ [x], c y = c w := fun y hy => by
          rcases List.mem_append.mp hy with hy | hy
          · exact a y hy w hw
          · rw [List.mem_singleton.mp hy]
            exact ew.symm
        rw [f y hy, f z hz]
      · intro a y hy z hz
        exact a y (List.mem_append_left _ hy) z (List.mem_append_left _ hz)
    · rw [if_neg c1]
      constructor
      · intro z
        have n0 : n = 0 := by omega
        rw [h.zero.mp n0]
        intro y hy z hz
        rw [List.nil_append] at hy hz
        rw [List.mem_singleton.mp hy, List.mem_singleton.mp hz]
      · intro a
        have : as = [] := by
          cases as with
          | nil => rfl
          | cons y r =>
            exact absurd ((h.mem _).mpr ⟨y, List.mem_cons_self .., a y (by simp) x (by simp)⟩) c1
        have := h.zero.mpr this
        omega
  · rw [List.length_append, List.length_singleton]
    have := h.le
    split <;> omega
end L2
namespace L2
open PySem PySem.Spec PyProof.Rows
/-- a dict of the module's, its keys texts -/
structure KD (P : Params) (K : PySem.W.Frag) (a : Addr) : Prop where
  lk : ∃ es n, K.lookup a = some ⟨.type "dict", none, .dict es n, #[]⟩ ∧ PySem.W.KeysLit P es.toList
  ns : (a == sysModules) = false
section
variable {X : Cx} {a : Addr} {o i e : Expr} {td ty : TE} {pos p : Pos}
end
end L2
namespace PySem
open Sem (wp)
end PySem
namespace L2
open PySem PySem.Spec PyProof.Rows
theorem paired_ix {α β : Type} {F : α → β → Prop} : ∀ {l : List α} {m : List β}, l.length = m.length → (∀ (i : Nat) x y, l[i]? = some x → m[i]? = some y → F x y) → Paired F l m
  | [], [], _, _ => .nil
  | [], _ :: _, e, _ => by simp at e
  | _ :: _, [], e, _ => by simp at e
  | x :: l, y :: m, e, h => .cons (h 0 x y rfl rfl) (paired_ix (by simpa using e) fun i x' y' h1 h2 => h (i + 1) x' y' (by simpa using h1) (by simpa using h2))
/-- the numbers of range(i, .., c), n of them -/
def rgN (i c : Int) (n : Nat) : List Int := (List.range n).map fun k : Nat => i + (k : Int) * c
theorem rg_vals {i c : Int} {n : Nat} {acc : Array Value} (h : ItemsOf (fun k v => ∃ t, v = .int (i + k * c) t) acc n) : Vals ((rgN i c n).map V.int) acc.toList := by
  refine paired_ix (by rw [List.length_map, rgN, List.length_map, List.length_range, Array.length_toList, h.1]) fun k x y h1 h2 => ?_
  rw [List.getElem?_map, rgN, List.getElem?_map] at h1
  rw [Array.getElem?_toList] at h2
  obtain ⟨t, rfl⟩ := h.2 k y h2
  have hk : k < n := by
    have := (Array.getElem?_eq_some_iff.mp h2).1
    rw [h.1] at this
    exact this
  rw [List.getElem?_range hk] at h1
  cases h1
  exact ⟨t, rfl⟩
/-- a range object -/
def RgX (r : Addr) (i j c : Int) : Heap → Prop := fun h => ∃ t u v, IsRange h r i j c t u v
section
variable {X : Cx} {a b c : Expr} {ta : TA} {p pos : Pos}
theorem rg_laid {pins : List (Addr × Obj)} {σ : St} {H : Hp} {s : Shared} {i j c : Int} {t u v : Tok} {tk : Nat} (I : Inv X pins σ H s) :
    Inv X pins σ (upd H s.heap.objs.size (.ext (RgX s.heap.objs.size i j c))) { s with heap := s.heap.push { cls := .type "range", data := .fields #[.int i t, .int j u, .int c v] }, toks := tk } :=
  I.laid (fun _ _ e => Heap.get?_push_of_some _ e) (Nat.le_refl _) ⟨⟨t, u, v, Heap.get?_push_size _ rfl⟩, ⟨_, Heap.get?_push_size _ rfl⟩, fun h1 h2 ⟨t, u, v, e⟩ k => ⟨t, u, v, k _ e⟩⟩
theorem pe_rg3 (hg : Gl X "range") (hm : X.mg "range" = none) (ha : PA X [a, b, c] ta)
    (hs : starEach [a, b, c] X.env = (false, eval a X.env) :: starEach [b, c] X.env := by rfl) (hpl : (backTo pos (starEach [b, c] X.env)).any (·.1) = false := by rfl) :
    PE X (.Call (.Name "range" p) [a, b, c] [] pos) (fun σ H Q => ta σ H fun vs H1 => ∃ i j k : Int, vs = [.int i, .int j, .int k] ∧ k ≠ 0 ∧ k.natAbs < 1073741824 ∧ ∀ r, H1 r = none → Q (.ref r) (upd H1 r (.ext (RgX r i j k)))) := by
  intro pins s σ H Q I h
  refine Call_ (ld_blt I hg hm boot_range (PyProof.Rows.callWith_type1 (thn (ha pos pins s σ H _ I h) fun us s1 ⟨vs, H1, I1, r1, q1⟩ => ?_) hs hpl))
  obtain ⟨i, j, k, e, c0, c1, q⟩ := q1
  subst e
  cases r1 with
  | cons r rr =>
    cases rr with
    | cons r' rr =>
      cases rr with
      | cons r'' rr =>
        cases rr
        obtain ⟨t, rfl⟩ := r
        obtain ⟨t', rfl⟩ := r'
        obtain ⟨t'', rfl⟩ := r''
        exact call_range_3 c0 ⟨.ref s1.heap.objs.size, _, rg_laid I1, rfl, q _ (I1.hok.fresh (Nat.le_refl _))⟩ (.inl (PyProof.noPylong_small c1))
/-- list(range(..)) -/
theorem call_list_rg (hc : X.calm = true) : CallR X (.type "list") (fun xs H Q => ∃ r i j c n, xs = [.ref r] ∧ H r = some (.ext (RgX r i j c)) ∧ RgC i j c n ∧ n ≤ 2 ^ 24 ∧ ∀ l, H l = none ∧ l ≠ sysModules → Q (.ref l) (upd H l (.lst ((rgN i c n).map V.int)))) := by
  intro pins s σ H xs us Q I r h
  obtain ⟨ra, i, j, c, n, rfl, hr, ⟨c0, c1, c2, c3⟩, hz, q⟩ := h
  obtain ⟨u, rfl, rx⟩ := vals1 r
  cases rx
  obtain ⟨⟨t, u, v, hR⟩, _⟩ := (show ObjOk X.prog X.w H s.heap ra (.ext (RgX ra i j c)) from I.hok ra _ hr)
  refine call_list_range (I.ok.hd hc) hR c2 c3 hz fun h' tk acc c' hk hD hI => ?_
  have hv := rg_vals hI
  have hl : ((rgN i c n).map V.int).length ≤ sizeLine := by rw [hv.length, Array.length_toList, hI.1, sizeLine_eq]; omega
  exact ⟨.ref s.heap.objs.size, _, I.laid (t' := tk) hk (Nat.le_refl _) (show ObjOk X.prog X.w _ h' _ (.lst ((rgN i c n).map V.int)) from ⟨hl, acc.toList, c', hv, by simpa using hD⟩), rfl, q _ ⟨I.hok.fresh (Nat.le_refl _), Nat.ne_of_gt I.big⟩⟩
end
end L2
namespace L2
open PySem PySem.Spec PyProof.Rows
section
variable {X : Cx} {K : PySem.W.Frag} {e : Expr} {te : TE} {p q pos : Pos}
theorem pe_isiK {nm : Str} (c : Kc) (he : PE X e te) (hg : Gl X "isinstance") (hm : X.mg "isinstance" = none) (hgT : Gl X nm) (hmT : X.mg nm = none) (hv : bootBuiltins nm = some (.type c.nm)) (hK : X.K = K := by rfl) (hn : nm ≠ "__name__" := by decide) (hd : (nm == ("__debug__" : Str)) = false := by decide)
    (h1 : starEach [e, .Name nm q] X.env = (false, eval e X.env) :: starEach [.Name nm q] X.env := by rfl) : PE X (.Call (.Name "isinstance" p) [e, .Name nm q] [] pos) (tCB (rIsi K c) (tCons te (tCons (tC (.ty c.nm)) tNil))) := by
  subst hK
  exact pe_isi c he hg hm hgT hmT hv hn hd h1
end
end L2
namespace PySem
open Sem (wp)
end PySem
namespace L2
open PySem PySem.Spec PyProof.Rows
end L2
namespace L2
open PySem PySem.Spec PyProof.Rows
/-! t.count(n), set(l), l[::-1] -/
section
variable {X : Cx}
/-- l[::-1] -/
theorem pick_revL (its : Array Value) : slicePick its none none (some (-1)) = its.toList.reverse.toArray := by
  rw [← HT.pick_rev its]
  unfold slicePick
  show ((sliceRange ((its.size : Int) - 1) (-1) (-1)).filterMap _).toArray = _
  unfold sliceRange
  dsimp only
  rw [if_neg (by decide), List.filterMap_map]
  have e : (if (its.size : Int) - 1 > -1 then ((its.size : Int) - 1 - -1 - -1 - 1) / - -1 else 0).toNat = its.size := by
    rw [show (- -1 : Int) = 1 by decide, Int.ediv_one]
    split <;> omega
  rw [e]
  congr 2
  funext m
  show its[((its.size : Int) - 1 + -1 * (m : Int)).toNat]? = its[((its.size : Int) - 1 + (m : Int) * (-1)).toNat]?
  rw [show (its.size : Int) - 1 + -1 * (m : Int) = (its.size : Int) - 1 + (m : Int) * (-1) by rw [Int.mul_comm]]
theorem pe_revL {e st : Expr} {te ts : TE} {p2 pos : Pos} (he : PE X e te) (hs : PE X st ts) :
    PE X (.Subscript e (.Slice none none (some st) p2) pos) (fun σ H Q => te σ H fun x H1 => ts σ H1 fun y H2 => ∃ a xs, x = .ref a ∧ y = .int (-1) ∧ SqL X.K H2 a xs ∧ ∀ p, H2 p = none → Q (.ref p) (upd H2 p (.lst xs.reverse))) := by
  intro pins s σ H Q I h
  refine Subscript_ (thn (he pins s σ H _ I h) fun v s1 ⟨x, H1, I1, r1, q1⟩ => ?_)
  refine wpAny_Slice ?_
  rw [evalPart_none, evalPart_some]
  refine wpAny_pure (wpAny_pure (thn (hs pins s1 σ H1 _ I1 q1) fun u s3 ⟨y, H3, I3, r3, a, xs, ex, ey, hx, q3⟩ => ?_))
  subst ex ey
  obtain ⟨tk, rfl⟩ := r3
  cases r1
  have I4 : Inv X pins σ H3 { s3 with heap := s3.heap.push { cls := .type "slice", data := .fields #[.none, .none, .int (-1) tk] } } := I3.kept (t' := s3.toks) fun b ob q => Heap.get?_push_of_some _ q
  obtain ⟨its, r, ht, hz⟩ := I4.list hx
  show wpAny (model X.prog X.w) X.A (subscriptTail e (.Slice none none (some st) p2) (.ref a) (.ref s3.heap.objs.size)) (EP X pins σ Q) X.xe { s3 with heap := s3.heap.push { cls := .type "slice", data := .fields #[.none, .none, .int (-1) tk] } }
  have hlen : its.length = xs.length := r.length.symm
  refine tail_any (ops := [.ref a, .ref s3.heap.objs.size]) ht.isList.typeIs slot_list_getitem.lookup (wpAny_getItem_list_slice ht.isList (Heap.IsSliceOf.new ..) .none .none (.int (-1) tk) (by simp) ?_ (by rw [List.size_toArray, hlen]; exact hz)) (by with_unfolding_all rfl)
  rw [pick_revL]
  refine ⟨.ref _, _, I4.laid (t' := s3.toks) (o := .lst xs.reverse) (fun b ob q => Heap.get?_push_of_some _ q) (Nat.le_refl _) ?_, rfl, q3 _ (I4.hok.fresh (Nat.le_refl _))⟩
  have rev : ∀ {xs : List V} {us : List Value}, Vals xs us → Vals xs.reverse us.reverse := by
    intro xs us r
    induction r with
    | nil => exact .nil
    | cons h t ih => rw [List.reverse_cons, List.reverse_cons]; exact ih.append (.cons h .nil)
  exact ⟨by rw [List.length_reverse]; exact hz, _, 0, rev r, Heap.get?_push_size _ rfl⟩
end
end L2
namespace L2
open PySem PySem.Spec PyProof.Rows
section
variable {X : Cx}
/-! t.m(e, ..), t a tracked tuple -/
variable {o e : Expr} {es : List Expr} {to : TE} {t : TA} {name : Str} {apos cpos : Pos} {id : String} {r : V → List V → Hp → VK → Prop}
end
end L2
/-! ### set(t) of a tuple of numbers -/
namespace PySem
open PySem PySem.Spec
section
variable {prog : Program} {w : World} {A : Around} {E : Value → Shared → Prop} {s : Shared}
end
end PySem
namespace L2
open PySem PySem.Spec PyProof.Rows
section
variable {X : Cx}
end
end L2
namespace PySem.SeqAt
open PySem MeetsSeq
end PySem.SeqAt
namespace L2
open PySem PySem.Spec PyProof.Rows
/-! x in a list of data; t.index(x) of flat items -/
section
variable {X : Cx}
end
end L2
namespace L2
open PySem PySem.Spec PyProof.Rows
/-! x is not True, a truth -/
end L2
/-! try: one clause, an own class by its name, without a name for the exception -/
namespace L2
open PySem PySem.Spec PyProof.Rows
section
variable {X : Cx} {pins : List (Addr × Obj)} {σ : St} {H : Hp} {s : Shared}
end
section
variable {X : Cx} {Dc : Addr} {y : Str} {np hpos pos : Pos} {body suite : List Stmt} {b₀ : Stmt}
end
end L2
/-! exceptions of own classes with an own __init__ -/
namespace XN
open PySem PySem.Spec
open Sem (wp)
section
variable {prog : Program} {w : World} {A : Around} {E : Value → Shared → Prop} {h : Heap} {g : Array GenState} {d : Drawn} {t : Nat} {os : OsState}
variable {nm q : Str} {C N : Addr} {bs bm bmB : List Value} {hdct : Bool} {sn : List Str} {sub : List Value} {ab : Bool} {col : Option Bool} {dd : Option Addr} {k0 k1 k2 k3 k5 : Option Value} {B newId initId : String}
theorem type_call_init (F : ExcBaseFacts B newId initId bmB) (T : OwnTail h bmB bm) {mN : Str → Option Value} {rest : List Value} {fI : Addr} {oI : Obj} {Q : Fin → Shared → Prop}
    (hC : h.get? C = some (excClassObj nm q C N bs bm hdct sn sub ab col dd k0 k1 k2 k3 k5 newId)) (hn : h.Ns N mN) (hi : mN "__init__" = some (.ref fI))
    (hfI : h.get? fI = some oI) (hfc : oI.cls = .type "function")
    (hq : ∀ h' e, Heap.MadeExcOf h h' e (.ref C) rest →
      wpAny (model prog w) A (call (.ref fI) (.ref e :: rest)) (fun r s' => r = .none ∧ Q (.done (.ret (.ref e))) s') E ⟨h', g, d, t, os⟩) (hrest : rest.length ≤ sizeLine := by size_fits) :
    wpAny (model prog w) A (Builtin.«type.__call__» ⟨.ref C :: rest, []⟩) Q E ⟨h, g, d, t, os⟩ := by
  repeat (first | with_reducible refine wpAny_loadPart_at hC ?_ | with_reducible refine wpAny_madeBy_exc hC ?_ | wp_step)
  refine codeAny_call_builtin_code (Code.quiet_builtin _ F.quiet) (wpAny_check_new_subT F T hC ?_)
  refine codeAny_exc_new_subT F T hC ?_ hrest
  show wpAny _ _ _ _ _ _
  have hC₁ := Heap.get?_push_of_some { cls := .ref C, data := .fields #[.ref h.objs.size, .none, .none, .none, .bool false, .none] }
    (Heap.get?_push_of_some { cls := .type "tuple", data := .seq rest.toArray } hC)
  have hfI₁ := Heap.get?_push_of_some { cls := .ref C, data := .fields #[.ref h.objs.size, .none, .none, .none, .bool false, .none] }
    (Heap.get?_push_of_some { cls := .type "tuple", data := .seq rest.toArray } hfI)
  have hn₁ : ((h.push { cls := .type "tuple", data := .seq rest.toArray }).push { cls := .ref C, data := .fields #[.ref h.objs.size, .none, .none, .none, .bool false, .none] }).Ns N mN :=
    let ⟨o, es, ep, e, r⟩ := hn; ⟨o, es, ep, Heap.get?_push_of_some _ (Heap.get?_push_of_some _ e), r⟩
  have hget : ((h.push { cls := .type "tuple", data := .seq rest.toArray }).push
      { cls := .ref C, data := .fields #[.ref h.objs.size, .none, .none, .none, .bool false, .none] }).get? (h.objs.size + 1) = some
      { cls := .ref C, data := .fields #[.ref h.objs.size, .none, .none, .none, .bool false, .none] } := by heap_get
  have hcC : (Value.ref C :: bm).contains (.ref C) = true := by simp
  have T₁ := T.keeps (h' := (h.push { cls := .type "tuple", data := .seq rest.toArray }).push { cls := .ref C, data := .fields #[.ref h.objs.size, .none, .none, .none, .bool false, .none] })
    fun b o e => Heap.get?_push_of_some _ (Heap.get?_push_of_some _ e)
  unfold isInstance
  repeat (first | with_reducible refine wpAny_loadPart_at hget ?_ | (with_reducible refine wpAny_isSubtype_exc hC₁ ?_; rw [hcC]) | wp_step)
  show wpAny _ _ (typeLookup (.ref C) _) _ _ _
  refine wpAny_typeLookup_tail hC₁ hn₁ T₁ F.mroIs F.init.lookup ?_
  rw [hi]
  refine wpAny_holding (wpAny_bind ?_)
  unfold bindSpecial
  refine wpAny_bind (wpAny_typeOf (T := "function") ⟨_, hfI₁, hfc⟩ ?_)
  rw [if_pos (by decide)]
  refine wpAny_pure (wpAny_bind (wpAny_mono (hq _ (h.objs.size + 1) ⟨fun b o hb => Heap.get?_push_of_some _ (Heap.get?_push_of_some _ hb), Heap.get?_none_of_le (Nat.le_succ _), h.objs.size, hget, Heap.get?_none_of_le (Nat.le_refl _), ?_⟩) (fun r s' hr => ?_) fun _ _ x => x))
  · exact Heap.get?_push_of_some _ (Heap.get?_push_at rfl rfl)
  · obtain ⟨rfl, hQ⟩ := hr
    wp_walk
    exact hQ
theorem call_init (F : ExcBaseFacts B newId initId bmB) (T : OwnTail h bmB bm) {mN : Str → Option Value} {rest : List Value} {fI : Addr} {oI : Obj} {Q : Value → Shared → Prop}
    (hC : h.get? C = some (excClassObj nm q C N bs bm hdct sn sub ab col dd k0 k1 k2 k3 k5 newId)) (hn : h.Ns N mN) (hi : mN "__init__" = some (.ref fI))
    (hfI : h.get? fI = some oI) (hfc : oI.cls = .type "function")
    (hq : ∀ h' e, Heap.MadeExcOf h h' e (.ref C) rest →
      wpAny (model prog w) (A.under (.builtin "type.__call__" ⟨.ref C :: rest, []⟩)) (call (.ref fI) (.ref e :: rest)) (fun r s' => r = .none ∧ Q (.ref e) s') E ⟨h', g, d, t, os⟩) (hrest : rest.length ≤ sizeLine := by size_fits) :
    wpAny (model prog w) A (call (.ref C) rest) Q E ⟨h, g, d, t, os⟩ := by
  have f1 := tc_lookup
  have f2 := tc_bind (.ref C)
  have hT : (⟨h, g, d, t, os⟩ : Shared).TypeIs (.ref C) "type" := ⟨_, hC, rfl⟩
  refine wpAny_call (codeAny_of_tree ?_)
  show wpAny _ _ (callAny (.ref C) _) _ _ _
  repeat (any_goals (first | assumption | with_reducible refine wpAny_loadPart_at hC ?_ | wp_step))
  refine ⟨rfl, ?_⟩
  refine codeAny_call_builtin_at (Code.quiet_builtin _ (by decide +kernel)) entry_typeCall (wpAny_check_type_call_sub hC (type_call_init (hrest := hrest) F T hC hn hi hfI hfc fun h' e hm => ?_))
  exact hq h' e hm
end
section
variable {M : Model} {A : Around} {E : Value → Shared → Prop} {env : Env}
variable {nm q : Str} {C N : Addr} {bs bm : List Value} {hdct : Bool} {sn : List Str} {sub : List Value} {ab : Bool} {col : Option Bool} {dd : Option Addr} {k0 k1 k2 k3 k5 : Option Value} {newId : String}
theorem raise_made {s : Shared} {x : Sem Value} {Q : Flow → Shared → Prop} (hbase : bm.contains (.type "BaseException") = true) (hh : A.handled = none)
    (h : wpAny M A x (fun v s₁ => ∃ e t od sl, v = .ref e ∧ s₁.heap.get? C = some (excClassObj nm q C N bs bm hdct sn sub ab col dd k0 k1 k2 k3 k5 newId) ∧
      s₁.heap.get? e = some { cls := .ref C, dict := od, data := .fields #[.ref t, .none, .none, .none, .bool false, .none], slots := sl } ∧ E (.ref e) s₁) E s) :
    wpAny M A (raiseStmt env (some x) none) Q E s := by
  have hcB : (Value.ref C :: bm).contains (.type "BaseException") = true := by rw [List.contains_cons, hbase, Bool.or_true]
  unfold raiseStmt
  refine wpAny_bind (wpAny_mono h (fun v s₁ h₁ => ?_) fun _ _ x => x)
  obtain ⟨e, t, od, sl, rfl, hC, he, hE⟩ := h₁
  obtain ⟨hp, g, d, tk, os⟩ := s₁
  repeat (first | with_reducible refine wpAny_loadPart_at he ?_ | with_reducible refine wpAny_loadPart_at hC ?_ | (with_reducible refine wpAny_isSubtype_exc hC ?_; rw [hcB]) | wp_step)
  exact wpAny_raiseNew_none hh hE
end
section
variable {prog : Program} {w : World} {A : Around} {E : Value → Shared → Prop} {s : Shared} {env : Env}
variable {nm q : Str} {C N : Addr} {bs bm bmB : List Value} {hdct : Bool} {sn : List Str} {sub : List Value} {ab : Bool} {col : Option Bool} {dd : Option Addr} {k0 k1 k2 k3 k5 : Option Value} {B newId initId : String}
theorem raise_init (F : ExcBaseFacts B newId initId bmB) {mN : Str → Option Value} {x : Str} {np cpos pos : Pos} {args : List Expr} {fI : Addr} {oI : Obj} {Q : Flow → Shared → Prop}
    (hbase : bm.contains (.type "BaseException") = true) (hh : A.handled = none) (hplain : (backTo cpos (starEach args env)).any (·.1) = false) (hi : mN "__init__" = some (.ref fI)) (hfc : oI.cls = .type "function")
    (h : wpAny (model prog w) A (eval (.Name x np) env) (fun f s₁ => f = .ref C ∧ wpAny (model prog w) A (evalArgs (.ref C) true (backTo cpos (starEach args env)) [])
      (fun a s₂ => a.kw = [] ∧ a.pos.length ≤ sizeLine ∧ s₂.heap.get? C = some (excClassObj nm q C N bs bm hdct sn sub ab col dd k0 k1 k2 k3 k5 newId) ∧ s₂.heap.Ns N mN ∧ OwnTail s₂.heap bmB bm ∧ s₂.heap.get? fI = some oI ∧
        ∀ h' e, Heap.MadeExcOf s₂.heap h' e (.ref C) a.pos → wpAny (model prog w) (A.under (.builtin "type.__call__" ⟨.ref C :: a.pos, []⟩)) (call (.ref fI) (.ref e :: a.pos)) (fun r s' => r = .none ∧
          s'.heap.get? C = some (excClassObj nm q C N bs bm hdct sn sub ab col dd k0 k1 k2 k3 k5 newId) ∧ (∃ t od sl, s'.heap.get? e = some { cls := .ref C, dict := od, data := .fields #[.ref t, .none, .none, .none, .bool false, .none], slots := sl }) ∧ E (.ref e) s') E { s₂ with heap := h' }) E s₁) E s) :
    wpAny (model prog w) A (exec (.Raise (some (.Call (.Name x np) args [] cpos)) none pos) env) Q E s := by
  rw [arm_exec_Raise]
  first
    | refine wpAny_bind (wpAny_standAt (raise_made (C := C) (nm := nm) (q := q) (N := N) (bs := bs) (bm := bm) (hdct := hdct) (sn := sn) (sub := sub) (ab := ab) (col := col) (dd := dd) (k0 := k0) (k1 := k1) (k2 := k2) (k3 := k3) (k5 := k5) (newId := newId) hbase hh (wpAny_bind (wpAny_mono (wpAny_Call_ofName (wpAny_mono h (fun f s₁ h₁ => ?_) fun _ _ x => x)) (fun v s₃ h₃ => wpAny_bind (wpAny_standAt (wpAny_pure h₃))) fun _ _ x => x))))
    | (simp only [evalOpt, Option.map]; refine wpAny_bind (wpAny_standAt (raise_made (C := C) (nm := nm) (q := q) (N := N) (bs := bs) (bm := bm) (hdct := hdct) (sn := sn) (sub := sub) (ab := ab) (col := col) (dd := dd) (k0 := k0) (k1 := k1) (k2 := k2) (k3 := k3) (k5 := k5) (newId := newId) hbase hh (wpAny_bind (wpAny_mono (wpAny_Call_ofName (wpAny_mono h (fun f s₁ h₁ => ?_) fun _ _ x => x)) (fun v s₃ h₃ => wpAny_bind (wpAny_standAt (wpAny_pure h₃))) fun _ _ x => x)))))
    | (refine wpAny_bind (wpAny_standAt (raise_made (C := C) (nm := nm) (q := q) (N := N) (bs := bs) (bm := bm) (hdct := hdct) (sn := sn) (sub := sub) (ab := ab) (col := col) (dd := dd) (k0 := k0) (k1 := k1) (k2 := k2) (k3 := k3) (k5 := k5) (newId := newId) hbase hh ?_)); refine wpAny_bind (wpAny_mono (wpAny_Call_ofName (wpAny_mono h (fun f s₁ h₁ => ?_) fun _ _ x => x)) (fun v s₃ h₃ => wpAny_bind (wpAny_standAt (wpAny_pure h₃))) fun _ _ x => x))
  obtain ⟨rfl, h₁⟩ := h₁
  unfold callWith
  refine wpAny_bind (wpAny_holding (wpAny_mono h₁ (fun a s₂ h₂ => wpAny_bind (wpAny_standAt ?_)) fun _ _ x => x))
  obtain ⟨apos, akw⟩ := a
  obtain ⟨hkw, hlen, hC, hn, T, hfI, h₂⟩ := h₂
  obtain rfl : akw = [] := hkw
  obtain ⟨hp, g, d, tk, os⟩ := s₂
  simp only [hplain]
  refine wpAny_bind (wpAny_keeperOf_exc hC ?_)
  refine wpAny_bind (call_init (hrest := hlen) F T hC hn hi hfI hfc fun h' e hm => ?_)
  refine wpAny_mono (h₂ h' e hm) (fun r s' hr => ?_) fun _ _ x => x
  obtain ⟨rfl, hC', ⟨t, od, sl, he⟩, hE⟩ := hr
  exact ⟨rfl, wpAny_bind (wpAny_holding (wpAny_point (wpAny_pure ⟨e, t, od, sl, rfl, hC', he, hE⟩)))⟩
end
end XN
/-! a field of a new exception is stored -/
namespace XN
open PySem PySem.Spec PySem.W Builtin Builtin.ObjectAttr
/-- own classes, then these -/
def tailIs (bm : List Value) : List Value → Bool
  | .ref _ :: r => tailIs bm r
  | l => l == bm
theorem refuse_tail {bm : List Value} (hp : ∀ self : Value, refuseLoop self "__setattr__" bm = pure ()) (self : Value) : ∀ {l : List Value}, tailIs bm l = true → refuseLoop self "__setattr__" l = pure () := by
  intro l
  induction l with
  | nil => intro e; rw [show ([] : List Value) = bm from beq_iff_eq.mp e]; exact hp self
  | cons a r ih =>
    intro e
    cases a with
    | ref c => rw [refuseLoop_ref]; exact ih e
    | _ => rw [show (_ :: r) = bm from beq_iff_eq.mp e]; exact hp self
theorem tail_has {bm : List Value} {v : Value} (h : bm.contains v = true) : ∀ {l : List Value}, tailIs bm l = true → l.contains v = true := by
  intro l
  induction l with
  | nil => intro e; rw [show ([] : List Value) = bm from beq_iff_eq.mp e]; exact h
  | cons a r ih =>
    intro e
    cases a with
    | ref c => rw [List.contains_cons, ih e, Bool.or_true]
    | _ => rw [show (_ :: r) = bm from beq_iff_eq.mp e]; exact h
section
variable {prog : Program} {w : World} {A : Around} {E : Value → Shared → Prop} {s : Shared} {K : Frag} {x C : Addr} {name : Str} {v : Value} {cd : ClassData} {o : Obj} {vs : Array Value} {bm : List Value}
theorem exc_set {Q : Unit → Shared → Prop} (X : K.In s.heap) (hx : s.heap.get? x = some o) (hc : o.cls = .ref C) (hd0 : o.dict = none) (hdt : o.data = .fields vs) (hcd : clsIn K C = some cd) (hp : ∀ self : Value, refuseLoop self "__setattr__" bm = pure ()) (ht : tailIs bm cd.mro = true)
    (hob : bm.contains (.type "object") = true) (hs : findIn K (.ref C) "__setattr__" = some (some (.builtin "object.__setattr__"))) (hna : findIn K (.ref C) name = some none) (hh : cd.hasDict = true)
    (hq : ∀ h' tk', (∀ b u, b ≠ x → s.heap.get? b = some u → h'.get? b = some u) → h'.get? x = some { o with dict := some s.heap.objs.size } → h'.Ns1 s.heap.objs.size (fun y => if y = name then some v else none) → Q () { s with heap := h', toks := tk' }) :
    wpAny (model prog w) A (setAttr (.ref x) name v) Q E s := by
  obtain ⟨hp0, g0, d0, t0, os0⟩ := s
  dsimp only at X hx hq ⊢
  have J : InstAt hp0 x o C none := ⟨hx, hc, by unfold notCls; rw [hdt], by rw [hd0]; trivial⟩
  have SF := PySem.F.store_object
  have ne : cd.mro.isEmpty = false := by
    have := tail_has hob ht
    cases q : cd.mro with
    | nil => rw [q] at this; cases this
    | cons _ _ => rfl
  have sub : Looks (model prog w) hp0 (isInstance (.ref x) (.type "object")) true := J.type.andThen (looks_mroIn X (by unfold mroIn; rw [hcd, Option.bind_some, if_neg (by rw [ne]; decide), tail_has hob ht]))
  refine set_plain X J hs (codeAny_call_builtin SF.slot.plain SF.entry (@check_slot (model prog w) _ _ _ "object.__setattr__" "object" "__setattr__" (.ref x) [.str name t0, v] [] _ SF.kind SF.split sub (SF.args (.ref x) (.str name t0) v) ?_))
  have hm : Looks (model prog w) hp0 (mroOf (.ref C)) cd.mro := (looks_clsIn X hcd).andThen .now
  have L3 : Looks (model prog w) hp0 (storeTaker? none) none := .now
  rw [osa_eq, refuse_eq]
  refine wpAny_bind (wpAny_bind (J.type.here (s := ⟨hp0, g0, d0, t0 + 1, os0⟩) (wpAny_bind (hm.here (s := ⟨hp0, g0, d0, t0 + 1, os0⟩) ?_))))
  rw [refuse_tail hp _ ht]
  refine wpAny_pure (wpAny_bind (J.type.here (s := ⟨hp0, g0, d0, t0 + 1, os0⟩) (wpAny_bind ((looks_findIn X hna).here (s := ⟨hp0, g0, d0, t0 + 1, os0⟩) (wpAny_bind (L3.here (s := ⟨hp0, g0, d0, t0 + 1, os0⟩) ?_))))))
  obtain ⟨oc, od, oda, osl⟩ := o
  dsimp only at hc hd0 hdt
  subst hc hd0 hdt
  refine wpAny_bind (wpAny_pure (wpAny_bind (wpAny_bind (wpAny_loadPart hx (wpAny_bind ((looks_clsIn X hcd).here (s := ⟨hp0, g0, d0, t0 + 1, os0⟩) ?_))))))
  rw [hh]
  have hx₁ : (hp0.push { cls := .type "dict", data := .dict #[] }).get? x = some ⟨.ref C, none, .fields vs, osl⟩ := Heap.get?_push_of_some _ hx
  have hxs : x ≠ hp0.objs.size := Nat.ne_of_lt (Heap.lt_size hx)
  refine wpAny_bind (wpAny_alloc' ?_)
  refine wpAny_bind (wpAny_update' hx₁ ?_)
  refine wpAny_pure (wpAny_bind ?_)
  have hgd : ((hp0.push { cls := .type "dict", data := .dict #[] }).update x fun o => { cls := o.cls, dict := some hp0.objs.size, data := o.data, slots := o.slots }).get? hp0.objs.size
      = some { cls := .type "dict", data := .dict #[] } :=
    (Heap.get?_update_ne _ _ _ _ hxs.symm).trans (Heap.get?_push_at rfl rfl)
  have hnd : ((hp0.push { cls := .type "dict", data := .dict #[] }).update x fun o => { cls := o.cls, dict := some hp0.objs.size, data := o.data, slots := o.slots }).Ns hp0.objs.size (fun _ => none) :=
    ⟨_, #[], _, hgd, rfl, fun e he => absurd he (by simp), fun _ => rfl⟩
  refine wpAny_pure (wpAny_bind (wpAny_nsSet1 (Heap.Ns1.of_empty hnd) fun h' hn' hs' => ?_))
  obtain ⟨oD, esD, epD, hoD, hdD, hcD⟩ := hn'.count (Within.cons name v Within.nil)
  refine wpAny_bind (wpAny_lookBehind hoD (by rw [hdD]; exact pastItsLine_dict (Nat.le_trans hcD (by rw [List.length_cons, List.length_nil, sizeLine_eq]; omega))) ?_)
  have hx' : h'.get? x = some ⟨.ref C, some hp0.objs.size, .fields vs, osl⟩ := (hs'.2 x hxs).trans (Heap.get?_update_self _ hx₁ rfl)
  refine wpAny_pure (hq h' _ (fun b u hb e => ?_) hx' hn')
  exact (hs'.2 b (Nat.ne_of_lt (Heap.lt_size e))).trans ((Heap.get?_update_ne _ _ _ _ hb).trans (Heap.get?_push_of_some _ e))
end
end XN
/-! raise C(e, ..) where C has an __init__ of its own -/
namespace L2
open PySem PySem.Spec PyProof.Rows
/-- a new exception of class C, its dict at od -/
def XO (a C : Addr) (od : Option Addr) : HO := .ext fun h => ∃ t sl, h.get? a = some { cls := .ref C, dict := od, data := .fields #[.ref t, .none, .none, .none, .bool false, .none], slots := sl }
theorem XO.ok {P : Program} {w : World} {H : Hp} {h : Heap} {a C t : Addr} {od : Option Addr} {sl : Array (Option Value)} (e : h.get? a = some { cls := .ref C, dict := od, data := .fields #[.ref t, .none, .none, .none, .bool false, .none], slots := sl }) : ObjOk P w H h a (XO a C od) :=
  ⟨⟨t, sl, e⟩, ⟨_, e⟩, fun _ _ ⟨t, sl, q⟩ k => ⟨t, sl, k _ q⟩⟩
def drop (H : Hp) (e : Addr) : Hp := fun b => if b = e then none else H b
theorem drop_self {H : Hp} {e : Addr} : drop H e e = none := by unfold drop; rw [if_pos rfl]
theorem drop_ne {H : Hp} {e b : Addr} (h : b ≠ e) : drop H e b = H b := by unfold drop; rw [if_neg h]
/-- what a class must have for a field of its new exceptions to be stored -/
structure XSet (K : PySem.W.Frag) (C : Addr) (f : Str) : Prop where
  cd : ∃ cd bm, PySem.W.clsIn K C = some cd ∧ (∀ self : Value, refuseLoop self "__setattr__" bm = pure ()) ∧ XN.tailIs bm cd.mro = true ∧ bm.contains (.type "object") = true ∧ cd.hasDict = true
  sa : PySem.W.findIn K (.ref C) "__setattr__" = some (some (.builtin "object.__setattr__"))
  na : PySem.W.findIn K (.ref C) f = some none
section
variable {X : Cx} {pins : List (Addr × Obj)} {σ : St} {H : Hp} {s : Shared} {h' : Heap} {a C dx : Addr} {f : Str} {y : V} {u : Value} {t' : Nat}
theorem Inv.excset (I : Inv X pins σ H s) (ea : H a = some (XO a C none)) (ry : RelV y u) (k1 : ∀ b v, b ≠ a → s.heap.get? b = some v → h'.get? b = some v)
    (k2 : ∃ t sl, h'.get? a = some { cls := .ref C, dict := some s.heap.objs.size, data := .fields #[.ref t, .none, .none, .none, .bool false, .none], slots := sl }) (k3 : h'.Ns1 s.heap.objs.size (fun z => if z = f then some u else none)) :
    Inv X pins σ (upd (upd H s.heap.objs.size (.xd [(f, y)])) a (XO a C (some s.heap.objs.size))) { s with heap := h', toks := t' } := by
  have hn : H s.heap.objs.size = none := I.hok.fresh (Nat.le_refl _)
  have na : ∀ b o, H b = some o → b ≠ s.heap.objs.size := fun b o e z => by rw [z, hn] at e; cases e
  have go : ∀ b, b ≠ a → b ≠ s.heap.objs.size → upd (upd H s.heap.objs.size (.xd [(f, y)])) a (XO a C (some s.heap.objs.size)) b = H b := fun b h1 h2 => by rw [upd_ne h1, upd_ne h2]
  have nt : ∀ b o, H b = some o → (∀ φ, o ≠ .ext φ) → b ≠ a := fun b o e z q => by rw [q, ea] at e; cases e; exact z _ rfl
  have nu : ∀ b, H b = none → b ≠ a := fun b e z => by rw [z, ea] at e; cases e
  refine I.un ⟨fun b o e hb _ _ => k1 b o (nu b hb) e, fun b o e hb _ _ => ⟨o.slots, k1 b o (nu b hb) e⟩, fun b o e hb _ => ?_, fun b o e _ => ?_, fun b xs e => ?_, fun b o w e => ?_, fun b ps e => ⟨#[], ?_⟩⟩ fun b o e => ?_
  · rw [go b (nu b hb) (Nat.ne_of_lt (Heap.lt_size e))]; exact hb
  · by_cases z : b = a
    · obtain ⟨t, sl, q⟩ := k2
      exact ⟨_, z ▸ q⟩
    · exact ⟨o, k1 b o z e⟩
  · rw [go b (nt b _ e (fun _ z => by cases z)) (na b _ e)]; exact e
  · rw [go b (nt b _ e (fun _ z => by cases z)) (na b _ e)]; exact e
  · rw [go b (nt b _ e (fun _ z => by cases z)) (na b _ e), e]; simp
  · by_cases z : b = a
    · subst z
      rw [upd_same] at e
      cases e
      obtain ⟨t, sl, q⟩ := k2
      exact XO.ok q
    · by_cases z2 : b = s.heap.objs.size
      · subst z2
        rw [upd_ne z, upd_same] at e
        cases e
        refine ⟨_, k3, fun g => ?_⟩
        by_cases q : g = f
        · have hb : (g == f) = true := beq_iff_eq.mpr q
          simp only [List.lookup, hb, if_pos q]
          exact ry
        · have hb : (g == f) = false := beq_eq_false_iff_ne.mpr q
          simp only [List.lookup, hb, if_neg q]
          trivial
      · rw [go b z z2] at e
        refine (I.hok b o e).stay (fun c v hc q => k1 c v ?_ q) (fun c q => ?_) fun c xs q => ?_
        · rcases hc with rfl | hc
          · exact z
          · exact nt c _ hc (fun _ z => by cases z)
        · rw [go c (nt c _ q (fun _ z => by cases z)) (na c _ q)]; exact q
        · rw [go c (nt c _ q (fun _ z => by cases z)) (na c _ q)]; exact q
/-- e.f = value, e a new exception -/
def sFldX (K : PySem.W.Frag) (ta tv : TE) (f : Str) : TS := fun D σ H => tv σ H fun y H1 => ta σ H1 fun x H2 => ∃ a C, x = .ref a ∧ H2 a = some (XO a C none) ∧ XSet K C f ∧
  ∀ dx, H2 dx = none → dx ≠ a → D.nx σ (upd (upd H2 dx (.xd [(f, y)])) a (XO a C (some dx)))
theorem qs_fldX {o value : Expr} {pos pos' : Pos} {ta tv : TE} (ha : QE X o ta) (hv : QE X value tv) (hs : swapsWith value (some (.Attribute o f pos')) pos.line X.env = pure false) : QS X (.Assign [.Attribute o f pos'] value pos) (sFldX X.K ta tv f) := by
  refine ⟨fun pins s σ H D I h => ?_⟩
  refine plainObj_wpAny_Assign_Attribute (thn (hv.r pins s σ H _ I h) fun u s1 ⟨y, H1, I1, ry, q⟩ => thn (ha.r pins s1 σ H1 _ I1 q) fun ov s2 ⟨x, H2, I2, rx, a, C, ex, ea, c, q2⟩ => ?_) hs
  subst ex
  obtain rfl : ov = Value.ref a := rx
  obtain ⟨⟨t, sl, ho⟩, _, _⟩ := id (I2.hok a _ ea)
  obtain ⟨cd, bm, c1, c2, c3, c4, c5⟩ := c.cd
  exact XN.exc_set I2.kIn ho rfl rfl rfl c1 c2 c3 c4 c.sa c.na c5 fun h' tk' k1 k2 k3 => ⟨σ, _, I2.excset ea ry k1 ⟨t, sl, k2⟩ k3, q2 _ (I2.hok.fresh (Nat.le_refl _)) (fun z => by have := I2.hok.lt ea; rw [← z] at this; exact absurd this (Nat.lt_irrefl _))⟩
/-- it leaves the frame in which it was raised -/
theorem raise_leaveD {E : XK} {M : Model} {A : Around} {Ex : Value → Shared → Prop} {e : Addr} (I : Inv X pins σ H s) (hx : X.ex = []) (hst : X.stack = X.env :: X.outer) (hf : X.env.frame = some X.env.locals)
    (hfr : A.frames = some X.stack) (ea : H e = some (XO e C (some dx))) (new : X.s_0.heap.get? e = none) (hE : E (.ref C) (some dx) (drop H e)) :
    wpAny M A (leaving X.env (.ref e)) (fun _ s'' => CXE X.prog X.w X.outer X.H_0 X.s_0 E (.ref e) s'') Ex s := by
  obtain ⟨⟨t, sl, he⟩, _, _⟩ := id (I.hok e _ ea)
  have ff : s.heap.FunFrames X.base (X.env :: X.outer) := hst ▸ I.stack
  unfold leaving
  refine wpAny_bind (note_first (hst ▸ hfr) ff hf he rfl rfl fun h1 T1 W en => ?_)
  refine land (s := { s with heap := h1 }) W.ex rfl rfl en fun h2 k2 en2 => ?_
  have nT : s.heap.get? T1 = none := W.new
  have Z0 : Step s.heap h1 [e] (frs X.stack) := ⟨fun b o q z zf => W.keep b o q (fun r => z (by simp [r])) (by simp) (hst ▸ zf), fun b o q zf => W.slot b o q (hst ▸ zf)⟩
  have Z : Step s.heap h2 [e] (frs X.stack) := Z0.land nT k2
  have nt : ∀ b o, H b = some o → (∀ φ, o ≠ .ext φ) → b ≠ e := fun b o q z r => by rw [r, ea] at q; cases q; exact z _ rfl
  have U := Z.un (fs := frs X.outer) (I.unStack hx hst hf) (fun b hb => by
    simp only [List.mem_cons, List.not_mem_nil, or_false] at hb
    subst hb
    exact new) fun b o e hb => I.stkIn e hb
  have hd : HOk X.prog X.w (drop H e) s.heap := fun b o q => by
    have z : b ≠ e := fun r => by rw [r, drop_self] at q; cases q
    rw [drop_ne z] at q
    exact (I.hok b o q).stay (fun _ _ _ r => r) (fun c r => by rw [drop_ne (nt c _ r fun _ z => by cases z)]; exact r) fun c xs r => by rw [drop_ne (nt c _ r fun _ z => by cases z)]; exact r
  have fT : drop H e T1 = none := hd.none_of nT
  refine ⟨e, T1, drop H e, withF _ _, _, rfl, I.os, I.bare, ⟨U.keep, U.slot, fun b o q n hb => ?_, U.there, fun b xs q => ?_, fun b o w q => ?_, fun b ps q => ?_⟩, Z.hok hd (fun b hb => ?_) (fun b hb => ?_), (k2 e (Ne.symm W.ne)).trans W.ex, rfl, rfl, rfl, W.ne, en2, new, I.noex hx nT, drop_self, fT, hE⟩
  · by_cases z : b = e
    · rw [z]; exact drop_self
    · rw [drop_ne z]; exact U.free b o q n hb
  · have r := U.tups b xs q
    rw [drop_ne (nt b _ r fun _ z => by cases z)]; exact r
  · have r := U.frzs b o w q
    rw [drop_ne (nt b _ r fun _ z => by cases z)]; exact r
  · obtain ⟨m, r⟩ := U.tbls b ps q
    exact ⟨m, by rw [drop_ne (nt b _ r fun _ z => by cases z)]; exact r⟩
  · simp only [List.mem_cons, List.not_mem_nil, or_false] at hb
    subst hb
    exact drop_self
  · by_cases z : b = e
    · rw [z]; exact drop_self
    · rw [drop_ne z]; exact I.stkFree b hb
end
/-- an exception with a dict, raised in X: what becomes of it -/
def RsD (X : Cx) (E : XK) : Prop := ∀ (pins : List (Addr × Obj)) (σ : St) (H : Hp) (s : Shared) (e C dx : Addr), Inv X pins σ H s → H e = some (XO e C (some dx)) → X.s_0.heap.get? e = none → E (.ref C) (some dx) (drop H e) → X.xe (.ref e) s
section
variable {P : Program} {w : World} {K : PySem.W.Frag} {mg : Str → Option Value} {base : Heap} {N : List Str} {qual : Str} {scope : Scope} {f : Addr} {cd : Value} {A : Around} {outer : List Env} {s : Shared} {H : Hp} {E : XK}
theorem rsD_cx : RsD (cxOf (CXE P w) P w K mg base N qual scope f cd A outer s H E) E := fun pins σ H1 s1 e C dx I ea new hE =>
  raise_leaveD (A := A.deeper (envOfC qual scope s.heap.objs.size f cd)) I rfl rfl rfl I.ok.frames ea new hE
end
/-- an own class of exceptions with an __init__ of its own, f, as it stands written -/
def excInI (K : PySem.W.Frag) (C : Addr) (bmB : List Value) (newId : String) (f : Addr) : Bool := match K.lookup C with
  | some ⟨.type "type", _, .cls cd, sl⟩ => (match cd.mro, sl.toList with
    | .ref C' :: bm, [_, _, _, _, some (.builtin n), _] => C' == C && n == newId && !cd.hasDel && PySem.W.tailIn K bmB bm && PySem.W.nsOkIn K cd.ns && PySem.W.nsIn K cd.ns "__init__" == some (some (.ref f)) && cd.hasDict && XN.tailIs bmB cd.mro
    | _, _ => false)
  | _ => false
theorem excI_obj {K : PySem.W.Frag} {h : Heap} {C f : Addr} {bmB : List Value} {newId : String} (X : K.In h) (q : excInI K C bmB newId f = true) :
    ∃ bm N nm qn bs hdct sn sub ab col dd k0 k1 k2 k3 k5 mN, h.get? C = some (excClassObj nm qn C N bs bm hdct sn sub ab col dd k0 k1 k2 k3 k5 newId) ∧ h.Ns N mN ∧ mN "__init__" = some (.ref f) ∧ OwnTail h bmB bm := by
  unfold excInI at q
  split at q
  · rename_i dd cd sl ho
    split at q
    · rename_i D bm j0 j1 j2 j3 n j5 em es
      simp only [Bool.and_eq_true, beq_iff_eq, Bool.not_eq_true'] at q
      obtain ⟨⟨⟨⟨⟨⟨⟨e1, e2⟩, e3⟩, e4⟩, e5⟩, e6⟩, e7⟩, e8⟩ := q
      subst e1; subst e2
      obtain ⟨nm, bs, mro, ns, qn, hd, sn, sub, ab, col, del⟩ := cd
      obtain ⟨sl⟩ := sl
      dsimp only at em es e3 e5 e6
      subst em; subst es; subst e3
      have G : h.Ns ns _ := .of_isNs (PySem.W.isNs_of_in X e5)
      refine ⟨bm, ns, nm, qn, bs, hd, sn, sub, ab, col, dd, j0, j1, j2, j3, j5, _, X _ _ ho, G, ?_, PySem.W.tail_of_in X e4⟩
      obtain ⟨o, es, ep, ho2, hd2, _, hf⟩ := G
      unfold PySem.W.nsIn at e6
      split at e6
      · rename_i c d es' n' sl' q'
        have := X _ _ q'
        rw [ho2] at this
        cases this
        cases hd2
        split at e6
        · rename_i en he
          have e7' := Option.some.inj (Option.some.inj e6)
          rw [← hf]
          unfold nsFind findBy
          rw [← Array.find?_toList, he]
          exact congrArg some e7'
        · split at e6 <;> cases e6
      · cases e6
    · cases q
  · cases q
theorem excI_set {K : PySem.W.Frag} {C f : Addr} {bmB : List Value} {newId : String} {g : Str} (q : excInI K C bmB newId f = true) (hp : ∀ self : Value, refuseLoop self "__setattr__" bmB = pure ()) (ho : bmB.contains (.type "object") = true)
    (sa : PySem.W.findIn K (.ref C) "__setattr__" = some (some (.builtin "object.__setattr__"))) (na : PySem.W.findIn K (.ref C) g = some none) : XSet K C g := by
  unfold excInI at q
  split at q
  · rename_i dd cd sl hl
    split at q
    · rename_i D bm j0 j1 j2 j3 n j5 em es
      simp only [Bool.and_eq_true, beq_iff_eq, Bool.not_eq_true'] at q
      obtain ⟨⟨⟨⟨⟨⟨⟨e1, e2⟩, e3⟩, e4⟩, e5⟩, e6⟩, e7⟩, e8⟩ := q
      exact ⟨⟨cd, bmB, by unfold PySem.W.clsIn; rw [hl], hp, e8, ho, e7⟩, sa, na⟩
    · cases q
  · cases q
end L2
namespace L2
open PySem PySem.Spec PyProof.Rows
def tRaiseI (C : Addr) (spI : Sp) (ds : List V) (E : XK) (t : TA) : TS := fun _ σ H => t σ H fun vs H1 => vs.length ≤ sizeLine ∧ ∀ e, H1 e = none → spI (.ref e :: (vs ++ ds)) (upd H1 e (XO e C none)) (fun v H2 => v = .non ∧ ∃ dx, H2 e = some (XO e C (some dx)) ∧ E (.ref C) (some dx) (drop H2 e)) (fun _ _ _ => False)
theorem fn_obj {K : PySem.W.Frag} {f : Addr} (h : PySem.W.typeIn K (.ref f) = some (.type "function")) : ∃ oI, K.lookup f = some oI ∧ oI.cls = .type "function" := by
  have h : (K.lookup f).map (·.cls) = some (.type "function") := h
  cases e : K.lookup f with
  | none => rw [e] at h; cases h
  | some o => rw [e] at h; exact ⟨o, rfl, Option.some.inj h⟩
section
variable {X : Cx} {E : XK} {x : Str} {C f : Addr} {np cpos pos : Pos} {e : Expr} {es : List Expr} {t : TA} {B newId initId : String} {bmB : List Value} {k : Nat} {fd : FuncData} {ps : List Str} {spI : Sp} {dvs : List V} {ds : List Value}
theorem run_init {pins : List (Addr × Obj)} {σ : St} {H : Hp} {s : Shared} {us : List Value} {vs : List V} {h2 : Heap} {a : Addr} {nm qn : Str} {N : Addr} {bs bm : List Value} {hdct : Bool} {sn : List Str} {sub : List Value} {ab : Bool} {col : Option Bool} {dd : Option Addr} {k0 k1 k2 k3 k5 : Option Value}
    (F : FnOk X.prog X.w X.K X.mg X.base CX0 k f fd ps spI) (hr : Room (k + 1) X.A) (hb : Binds X.K fd ps ds) (hd : Vals dvs ds) (rs : RsD X E) (hex : X.ex = []) (I : Inv X pins σ H s) (r : Vals vs us)
    (hC : X.base.get? C = some (excClassObj nm qn C N bs bm hdct sn sub ab col dd k0 k1 k2 k3 k5 newId)) (M : Heap.MadeExcOf s.heap h2 a (.ref C) us)
    (q : ∀ e, H e = none → spI (.ref e :: (vs ++ dvs)) (upd H e (XO e C none)) (fun v H2 => v = .non ∧ ∃ dx, H2 e = some (XO e C (some dx)) ∧ E (.ref C) (some dx) (drop H2 e)) (fun _ _ _ => False)) :
    wpAny (model X.prog X.w) (X.A.under (.builtin "type.__call__" ⟨.ref C :: us, []⟩)) (call (.ref f) (.ref a :: us)) (fun u s' => u = .none ∧
      s'.heap.get? C = some (excClassObj nm qn C N bs bm hdct sn sub ab col dd k0 k1 k2 k3 k5 newId) ∧ (∃ t od sl, s'.heap.get? a = some { cls := .ref C, dict := od, data := .fields #[.ref t, .none, .none, .none, .bool false, .none], slots := sl }) ∧ X.xe (.ref a) s') X.xe { s with heap := h2 } := by
  obtain ⟨t, he, _, _⟩ := M.there
  have fe := I.hok.none_of M.new
  have I2 : Inv X pins σ (upd H a (XO a C none)) { s with heap := h2 } := I.un (t' := s.toks) ((Un.kept M.keeps).more M.new fe) ((I.hok.kept M.keeps).more fe (XO.ok (sl := #[]) he))
  have hq := q a fe
  have r2 : Vals (V.ref a :: (vs ++ dvs)) (Value.ref a :: us ++ ds) := .cons rfl (r.append hd)
  have hl : (Value.ref a :: us ++ ds).length = ps.length := by rw [← r2.length]; exact F.len _ _ _ _ hq
  refine wpAny_call (codeAny_mono (F.run _ X.stack _ _ ⟨Value.ref a :: us, []⟩ (Value.ref a :: us ++ ds) _ _ _ (hr.make C us []) (I2.env0.make C us []) (hb _ (Value.ref a :: us) I2.kIn hl) r2 hq) fun rr s' hq' => ?_)
  cases rr with
  | error e => exact hq'.elim
  | ok fl =>
    cases fl with
    | ret u =>
      obtain ⟨v, H', I3, rv, ev, dx, ea, hE⟩ := I2.after hq'
      subst ev
      obtain ⟨⟨t', sl, ho⟩, _, _⟩ := id (I3.hok a _ ea)
      exact ⟨rv, I3.bk _ _ hC, ⟨t', _, sl, ho⟩, rs pins σ H' s' a C dx I3 ea (I.noex hex M.new) hE⟩
    | next => exact False.elim hq'
    | brk => exact False.elim hq'
    | cont => exact False.elim hq'
/-- raise C() -/
theorem qs_raiseI0 (FB : ExcBaseFacts B newId initId bmB) (hq : excInI X.K C bmB newId f = true) (hf : PySem.W.typeIn X.K (.ref f) = some (.type "function")) (F : FnOk X.prog X.w X.K X.mg X.base CX0 k f fd ps spI) (hr : Room (k + 1) X.A) (hb : Binds X.K fd ps ds) (hd : Vals dvs ds)
    (rs : RsD X E) (hex : X.ex = []) (hg : Gl X x) (hm : X.mg x = some (.ref C)) (hc : X.calm = true) (hdb : (x == ("__debug__" : Str)) = false := by decide) : QS X (.Raise (some (.Call (.Name x np) [] [] cpos)) none pos) (tRaiseI C spI dvs E tNil) := by
  refine ⟨fun pins s σ H D I h => ?_⟩
  obtain ⟨bm, N, nm, qn, bs, hdct, sn, sub, ab, col, dd, k0, k1, k2, k3, k5, mN, hC, hN, hni, T⟩ := excI_obj I.ok.mod.kin hq
  obtain ⟨oI, lI, cI⟩ := fn_obj hf
  refine XN.raise_init (C := C) (nm := nm) (q := qn) (N := N) (bs := bs) (bm := bm) (hdct := hdct) (sn := sn) (sub := sub) (ab := ab) (col := col) (dd := dd) (k0 := k0) (k1 := k1) (k2 := k2) (k3 := k3) (k5 := k5) (oI := oI)
    FB (mN := mN) (T.hasType FB.hasBase) (I.ok.hd hc) rfl hni cI (ld_glob I hg hm ⟨rfl, ?_⟩ hdb)
  obtain ⟨z1, z2⟩ := h
  refine PyProof.Rows.evalArgs_nil3 ⟨rfl, Nat.zero_le _, I.bk _ _ hC, hN.keeps I.bk, T.keeps I.bk, I.kIn _ _ lI, fun h2 a M => ?_⟩
  exact run_init (vs := []) F hr hb hd rs hex I .nil hC M z2
end
end L2
namespace L2
open PySem PySem.Spec PyProof.Rows
/-! x is True, whatever x is -/
end L2
namespace L2
open PySem PySem.Spec PyProof.Rows
end L2
/-! a field of a caught exception; a clause that names several classes -/
namespace XI
open PySem PySem.W PySem.Spec PySem.Calls PyProof.Rows Builtin Builtin.ObjectAttr
section
variable {K : Frag} {x D : Addr} {prog : Program} {w : World} {A : Around} {E : Value → Shared → Prop} {s : Shared} {name : Str} {v : Value}
end
theorem looks_forIn {β : Type} {M : Model} {h : Heap} {body : Value → β → Sem (ForInStep β)} {r : β} : ∀ {l : List Value}, (∀ c ∈ l, Looks M h (body c r) (.yield r)) → Looks M h (forIn l r body) r
  | [], _ => by
    rw [List.forIn_nil]
    exact Looks.of_pure rfl
  | c :: l, hb => by
    rw [List.forIn_cons]
    exact (hb c (List.mem_cons_self ..)).andThen (looks_forIn fun d hd => hb d (List.mem_cons_of_mem _ hd))
theorem tc_tuple : isSubtype (.type "tuple") (.type "tuple") = pure true := by rw [isSubtype_type]; kernel_rfl
end XI
namespace L2
open PySem PySem.Spec PyProof.Rows
/-! ### e.f, e an exception that was caught -/
structure XGet (K : PySem.W.Frag) (C : Addr) (f : Str) : Prop where
  ga : PySem.W.findIn K (.ref C) "__getattribute__" = some (some (.builtin "BaseException.__getattribute__"))
  gh : PySem.W.findIn K (.ref C) "__getattr__" = some none
  hd : PySem.W.hasDictIn K C = true
  na : PySem.W.findIn K (.ref C) f = some none
  ob : PySem.W.mroIn K C (.type "BaseException") = some true
section
variable {X : Cx}
end
/-! ### try: one clause of a tuple of classes, with a name for the exception -/
/-- the classes that a clause names: own ones -/
def Classes (K : PySem.W.Frag) (Ds : List Addr) : Prop := ∀ D ∈ Ds, (PySem.W.clsIn K D).isSome = true ∧ PySem.W.mroIn K D (.type "BaseException") = some true
theorem refs_vals : ∀ {Ds : List Addr} {us : List Value}, Vals (Ds.map V.ref) us → us = Ds.map Value.ref
  | [], _, .nil => rfl
  | D :: Ds, _, .cons h t => by
    rw [refs_vals t]
    have e : _ = Value.ref D := h
    rw [e]
    rfl
section
variable {X : Cx} {pins : List (Addr × Obj)} {σ : St} {H : Hp} {s : Shared}
end
section
variable {X : Cx} {n : Str} {i : Nat} {spec : Expr} {hpos pos : Pos} {body suite : List Stmt} {b₀ : Stmt}
end
end L2
/-! x.strip(chars); d.update(e) -/
namespace L2
open PySem PySem.Spec PyProof.Rows
section
variable {X : Cx}
end
section
variable {X : Cx} {pins : List (Addr × Obj)} {σ : St} {H : Hp} {s : Shared} {a b : Addr} {kvs kvs2 : List (Key × V)} {A : Around} {E : Value → Shared → Prop}
end
section
variable {X : Cx} {o e : Expr} {td te : TE} {apos cpos pos : Pos}
end
end L2
/-! a, b, c = l, l a list -/
namespace PySem
open Sem (wp)
section
variable {prog : Program} {w : World} {A : Around} {E : Value → Shared → Prop} {s : Shared}
end
end PySem
namespace L2
open PySem PySem.Spec PyProof.Rows
section
variable {X : Cx}
end
end L2
/-! set(l), l a list of pairs of numbers, four at most; len of it -/
namespace PySem
namespace SetTable
def nxt (i P : Nat) : Nat := (i * 5 + 1 + P / 32) % 8
section
variable {t : SetTable}
def Ends (t : SetTable) : Nat → Nat → Nat → Prop
  | 0, i, _ => t.slot i = .empty
  | d + 1, i, P => t.slot i = .empty ∨ Ends t d (nxt i P) (P / 32)
end
end SetTable
open PyProof.Rows
open L2 PyProof.Rows
section
variable {prog : Program} {w : World} {A : Around} {E : Value → Shared → Prop} {s : Shared}
/-- the table of pairs: its entries are tuples below B -/
def Tab (prog : Program) (w : World) (B : Addr) (h : Heap) (a : Addr) (o : Obj) (es : Array (Int × Value)) (ep : Nat) (t : SetTable) : Prop :=
  h.get? a = some o ∧ o.ExactSet ∧ o.data = .set es ep t ∧ t.mask = 7 ∧ t.dummies = #[] ∧ t.place.size = es.size ∧ ∀ e ∈ es.toList, ∃ k b, e = (tupleKeyHash (mixKind prog w) k, Value.ref b) ∧ b < B ∧ IsTupleKey (mixKind prog w) h k b
variable {B a b : Addr} {o : Obj} {es : Array (Int × Value)} {ep : Nat} {t : SetTable} {k : List Key}
theorem tk_keeps {h h' : Heap} (x : IsTupleKey (mixKind prog w) h k b) (e : ∀ o, h.get? b = some o → h'.get? b = some o) : IsTupleKey (mixKind prog w) h' k b := by
  obtain ⟨o, its, n, g, r⟩ := x; exact ⟨o, its, n, e o g, r⟩
/-- the set after the first i of the keys -/
def PairSt (prog : Program) (w : World) (h : Heap) (S : Addr) (val : Nat → List Key) (i : Nat) : Prop :=
  ∃ o es ep t, Tab prog w S h S o es ep t ∧ es.size ≤ i ∧ ((i = 0 ∧ es = #[]) ∨
    (0 < i ∧ (∀ j, j < i → val j = val 0) ∧ ∃ c, es = #[(tupleKeyHash (mixKind prog w) (val 0), .ref c)] ∧ t.place = #[SetTable.bits (tupleKeyHash (mixKind prog w) (val 0)) % 8] ∧ IsTupleKey (mixKind prog w) h (val 0) c) ∨
    ((∃ j, j < i ∧ val j ≠ val 0) ∧ 2 ≤ es.size))
theorem PairSt.keeps {h h' : Heap} {S : Addr} {val : Nat → List Key} {i : Nat} (x : PairSt prog w h S val i) (e : ∀ b o, b ≤ S → h.get? b = some o → h'.get? b = some o) : PairSt prog w h' S val i := by
  obtain ⟨o, es, ep, t, ⟨a1, a2, a3, a4, a5, a6, a7⟩, a8, a9⟩ := x
  refine ⟨o, es, ep, t, ⟨e _ _ (Nat.le_refl _) a1, a2, a3, a4, a5, a6, fun q hq => ?_⟩, a8, ?_⟩
  · obtain ⟨k, b, q1, q2, q3⟩ := a7 q hq
    exact ⟨k, b, q1, q2, tk_keeps q3 fun o z => e _ _ (Nat.le_of_lt q2) z⟩
  · rcases a9 with a9 | ⟨b1, b2, c, b3, b4, b5⟩ | a9
    · exact .inl a9
    · obtain ⟨k, b, q1, q2, q3⟩ := a7 _ (by rw [b3]; exact List.mem_singleton.mpr rfl)
      injection q1 with _ q1; injection q1 with q1; subst q1
      exact .inr (.inl ⟨b1, b2, c, b3, b4, tk_keeps b5 fun o z => e _ _ (Nat.le_of_lt q2) z⟩)
    · exact .inr (.inr a9)
theorem Tab.first {h : Heap} {S : Addr} {o : Obj} {es : Array (Int × Value)} {ep : Nat} {t : SetTable} (x : Tab prog w B h S o es ep t) {j : Nat} (e : t.place = #[j]) : t.slot j = .live 0 := by
  unfold SetTable.slot
  have b0 : SetTable.below #[j] j = 0 := by simp [SetTable.below, SetTable.below.go]
  rw [e]; dsimp only; rw [b0]; simp
end
end PySem
namespace L2
open PySem PySem.Spec PyProof.Rows
section
variable {X : Cx}
theorem Paired.getD {α β : Type} {F : α → β → Prop} {xs : List α} {ys : List β} (r : Paired F xs ys) : ∀ (i : Nat) (x : α), xs[i]? = some x → ∃ y, ys[i]? = some y ∧ F x y := by
  induction r with
  | nil => intro i x h; simp at h
  | @cons x' y' xs ys h t ih =>
    intro i x e
    cases i with
    | zero => simp at e; subst e; exact ⟨y', rfl, h⟩
    | succ i => exact ih i x (by simpa using e)
theorem Paired.len {α β : Type} {F : α → β → Prop} {xs : List α} {ys : List β} (r : Paired F xs ys) : xs.length = ys.length := by
  induction r with
  | nil => rfl
  | cons _ _ ih => simp [ih]
end
end L2
/-! repr of numbers and data; text times a number -/
namespace L2
open PySem PySem.Spec PyProof.Rows
section
variable {X : Cx}
theorem call_reprA {k : Nat} (hr : Room k X.A) : CallR X (.builtin "repr") (fun xs H Q => ∃ (v : V) (d : PyData), xs = [v] ∧ Dq X.K H v d ∧ ((∃ a, v = .ref a) ∨ ∃ i : Int, d = .int i ∧ i.natAbs.log2 < 1920) ∧ d.showable = true ∧ d.depth ≤ 60 ∧ d.shown.length ≤ sizeLine ∧ Q (.str d.shown) H) := by
  intro pins s σ H xs us Q I r h
  obtain ⟨v, d, rfl, hd, hc, hs, hp, hz, q⟩ := h
  rcases hc with ⟨a, rfl⟩ | ⟨i, rfl, hi⟩
  · exact call_repr hr pins s σ H _ us Q I r ⟨a, d, rfl, hd, hs, hp, hz, q⟩
  · cases hd
    obtain ⟨u, rfl, t, rfl⟩ := vals1 r
    refine P.repr_of_int hi ⟨.str (PyData.int i).shown, H, I.tok _, ⟨s.toks, ?_⟩, q⟩
    rw [PyData.shown]
end
end L2
/-! the head of a law whose program makes functions at run time: the tables of the codes that make them are tracked -/
namespace L2
open PySem PySem.Spec PyProof.Rows
/-- the module of the builtins, as builtinsFor wants it -/
def Bm (mg : Str → Option Value) (h : Heap) : Prop := ∃ bm ob, mg "__builtins__" = some (.ref bm) ∧ bm ≠ builtinsNs ∧ h.get? bm = some ob ∧ ob.cls = .type "module" ∧ ob.dict = some builtinsNs ∧ ob.data = .plain
def OnlyT (ts : List (Addr × Addr)) (H : Hp) : Prop := ∀ b, H b = none ∨ (∃ o xs, H b = some (.frz o (.lst xs))) ∨ ((∃ q ∈ ts, q.2 = b) ∧ H b = some (.tbl #[]))
theorem law_callT {P : Program} {w : World} {K : PySem.W.Frag} {mg mb : Str → Option Value} {CX : CXT} {k : Nat} {fa a : Addr} {fd : FuncData} {x : Str} {sp : Sp} {s₁ : Shared} {vs : List Value} {ns : List Int} {ts : List (Addr × Addr)}
    (KX : K.In s₁.heap) (hns : s₁.heap.Ns mainGlobals mg) (hb : s₁.heap.Ns builtinsNs mb) (hbb : ∀ x : Str, x ≠ "__name__" → mb x = bootBuiltins x) (hlim : s₁.heap.NoLimit) (hg : s₁.gens = #[])
    (hbm : Bm mg s₁.heap) (hT : ∀ q ∈ ts, s₁.heap.get? q.2 = some (PySem.W.tabObj #[])) (hC : ∀ q ∈ ts, PySem.W.codeHdIn K q.1 q.2 = true) (hnt : PySem.W.noTabs K = true)
    (ha : s₁.heap.get? a = some { cls := .type "list", data := .seq vs.toArray }) (hi : IntsAre vs ns) (hl : ns.length ≤ sizeLine) (hr : Room k callerA)
    (F : ∀ base : Heap, K.In base → base.Ns mainGlobals mg → Bm mg base → FnOk P w K mg base CX k fa fd [x] sp) (hbind : ∀ (s : Shared) (u : Value), BindsTo s fd ⟨[u], []⟩ [(x, u)])
    (hsp : ∀ H : Hp, OnlyT ts H → (∀ q ∈ ts, H q.2 = some (.tbl #[])) → SqL K H a (ns.map V.int) → sp [.ref a] H (fun v _ => v = .bl true) fun _ _ _ => False)
    (hCX : ∀ H e s', CX [] H s₁ (fun _ _ _ => False) e s' → False) :
    codeAny (model P w) callerA (.call (.ref fa) ⟨[.ref a], []⟩) (fun r s' => r = .ok (.ret (.bool true)) ∧ OldK s₁.heap s'.heap ∧ s'.os = s₁.os ∧ AllBare s'.gens) s₁ := by
  have rv := vals_ints hi
  have lenV := hi.length
  have isT : ∀ b, (∃ q ∈ ts, q.2 = b) → s₁.heap.get? b = some (PySem.W.tabObj #[]) := fun b ⟨q, hq, e⟩ => e ▸ hT q hq
  have notK : ∀ b, (∃ q ∈ ts, q.2 = b) → K.lookup b = none := fun b hb' => by
    cases q : K.lookup b with
    | none => rfl
    | some o =>
      have e := KX b o q
      rw [isT b hb'] at e
      have h2 := List.all_eq_true.mp hnt (b, o) (PySem.W.mem_of_lookupK q)
      cases e
      exact absurd (show false = true from h2) Bool.false_ne_true
  have core : ∀ H : Hp, OnlyT ts H → (∀ q ∈ ts, H q.2 = some (.tbl #[])) → SqL K H a (ns.map V.int) → HOk P w H s₁.heap → (∀ b, H b ≠ none → b = a ∨ ∃ q ∈ ts, q.2 = b) → (H a ≠ none → K.lookup a = none) →
      codeAny (model P w) callerA (.call (.ref fa) ⟨[.ref a], []⟩) (fun r s' => r = .ok (.ret (.bool true)) ∧ OldK s₁.heap s'.heap ∧ s'.os = s₁.os ∧ AllBare s'.gens) s₁ := by
    intro H hO hTb hS hok hA hK
    have base_of : ∀ {b : Addr} {o : Obj}, s₁.heap.get? b = some o → H b = none → (hidT s₁.heap H).get? b = some o := fun e n => hidT_get e n
    have noA : ∀ {b : Addr} {o : Obj}, s₁.heap.get? b = some o → (∀ its n, o.data ≠ .seq its n) → (∀ fs, o.data ≠ .fields fs) → H b = none := fun {b o} e d d2 => by
      cases q : H b with
      | none => rfl
      | some u =>
        rcases hA b (by rw [q]; simp) with e' | e'
        · subst e'
          rw [ha] at e; cases e
          exact absurd rfl (d _ _)
        · rw [isT b e'] at e; cases e
          exact absurd rfl (d2 _)
    have nsK : ∀ {b : Addr} {m : Str → Option Value}, s₁.heap.Ns b m → (hidT s₁.heap H).Ns b m := fun {b m} ⟨o, es, ep, e, d, r⟩ => ⟨o, es, ep, base_of e (noA e (fun _ _ z => by rw [d] at z; cases z) (fun _ z => by rw [d] at z; cases z)), d, r⟩
    have hKb : K.In (hidT s₁.heap H) := fun b o e => base_of (KX b o e) (by
      cases q : H b with
      | none => rfl
      | some u =>
        rcases hA b (by rw [q]; simp) with e' | e'
        · subst e'
          rw [hK (by rw [q]; simp)] at e; cases e
        · rw [notK b e'] at e; cases e)
    have hBm : Bm mg (hidT s₁.heap H) := by
      obtain ⟨bm, ob, b1, b2, b3, b4, b5, b6⟩ := hbm
      exact ⟨bm, ob, b1, b2, base_of b3 (noA b3 (fun _ _ z => by rw [b6] at z; cases z) (fun _ z => by rw [b6] at z; cases z)), b4, b5, b6⟩
    have hM : Mod K mg (hidT s₁.heap H) := ⟨hKb, nsK hns, ⟨mb, nsK hb, hbb⟩, let ⟨mc, h1, h2⟩ := hlim; ⟨mc, nsK h1, h2⟩⟩
    have e0 : Env0 P w K mg (hidT s₁.heap H) callerA [] s₁ H := ⟨rfl, hM, fun b o e => of_hidT e, Nat.le_of_eq (hidT_size _ _), trivial, fun b hb => absurd (show b ∈ ([] : List Addr) from hb) (by simp), hok, .of_eq hg⟩
    refine codeAny_mono ((F _ hKb (nsK hns) hBm).run callerA [] s₁ H ⟨[.ref a], []⟩ [.ref a] [.ref a] _ _ hr e0 (hbind s₁ (.ref a)) (.cons rfl .nil) (hsp H hO hTb hS)) fun r s' h => ?_
    cases r with
    | error e => exact (hCX H e s' h).elim
    | ok fl =>
      cases fl with
      | next => exact False.elim h
      | brk => exact False.elim h
      | cont => exact False.elim h
      | ret u =>
        obtain ⟨v, H', os, bare, un, hok', r', q⟩ := h
        have q' : v = .bl true := q
        subst q'
        obtain rfl : u = Value.bool true := r'
        have un1 : ∀ b o, s₁.heap.get? b = some o → asItWas s₁.heap s'.heap b o ∧ ∃ o', s'.heap.get? b = some o' := fun b o e => by
          rcases hO b with z | ⟨ob, xs, z⟩ | ⟨⟨q, hq, eb⟩, z⟩
          · have e2 := un.keep b o e z (by intro z; exact absurd (show b ∈ ([] : List Addr) from z) (by simp)) (by simp)
            exact ⟨.inl e2, _, e2⟩
          · have z2 := un.frzs b ob _ z
            obtain ⟨e1, _⟩ := hok b _ z
            obtain ⟨e2, _⟩ := hok' b _ z2
            rw [e] at e1; cases e1
            exact ⟨.inl e2, _, e2⟩
          · obtain ⟨more, z2⟩ := un.tbls b _ z
            have e2 : s'.heap.get? b = some { cls := .none, data := .fields (#[] ++ more) } := hok' b _ z2
            have e1 : s₁.heap.get? b = some { cls := .none, data := .fields #[] } := hok b _ z
            rw [e] at e1; cases e1
            subst eb
            have C := PySem.W.codeHd_of_K KX (hC q hq)
            exact ⟨.inr (.inl ⟨(C.tab (hT q hq)).isCodeTable, rfl, #[], more, rfl, e2⟩), _, e2⟩
        exact ⟨rfl, ⟨fun b o e => (un1 b o e).1, fun b o e => (un1 b o e).2⟩, os, bare⟩
  have tdec : ∀ b, (∃ q ∈ ts, q.2 = b) ∨ ¬ ∃ q ∈ ts, q.2 = b := fun b => Classical.em _
  cases hk : K.lookup a with
  | some o =>
    have e := KX a o hk
    rw [ha] at e
    cases e
    refine core (fun b => if b ∈ ts.map (·.2) then some (.tbl #[]) else none) (fun b => ?_) (fun q hq => if_pos (List.mem_map_of_mem hq)) (.inr ⟨_, vs.toArray, _, hk, rfl, rfl, rfl, by rw [List.size_toArray, lenV]; exact hl, by simpa using rv⟩) (fun b u z => ?_) (fun b z => ?_) fun z => ?_
    · by_cases hb : b ∈ ts.map (·.2)
      · obtain ⟨q, hq, e⟩ := List.mem_map.mp hb
        exact .inr (.inr ⟨⟨q, hq, e⟩, if_pos hb⟩)
      · exact .inl (if_neg hb)
    · by_cases hb : b ∈ ts.map (·.2)
      · have z' := (if_pos hb).symm.trans z
        cases z'
        obtain ⟨q, hq, e⟩ := List.mem_map.mp hb
        exact isT b ⟨q, hq, e⟩
      · have z' := (if_neg hb).symm.trans z
        cases z'
    · by_cases hb : b ∈ ts.map (·.2)
      · obtain ⟨q, hq, e⟩ := List.mem_map.mp hb
        exact .inr ⟨q, hq, e⟩
      · exact absurd (if_neg hb) z
    · by_cases hb : a ∈ ts.map (·.2)
      · obtain ⟨q, hq, e⟩ := List.mem_map.mp hb
        exact notK a ⟨q, hq, e⟩
      · exact absurd (if_neg hb) z
  | none =>
    have na : a ∉ ts.map (·.2) := fun hb => by
      obtain ⟨q, hq, e⟩ := List.mem_map.mp hb
      have := isT a ⟨q, hq, e⟩
      rw [ha] at this; cases this
    refine core (fun b => if b = a then some (.frz { cls := .type "list", data := .seq vs.toArray } (.lst (ns.map V.int))) else if b ∈ ts.map (·.2) then some (.tbl #[]) else none) (fun b => ?_) (fun q hq => ?_) (.inl (.inr ⟨{ cls := .type "list", data := .seq vs.toArray }, if_pos rfl⟩)) (fun b u z => ?_) (fun b z => ?_) fun _ => hk
    · by_cases hb : b = a
      · exact .inr (.inl ⟨_, _, if_pos hb⟩)
      · by_cases hb2 : b ∈ ts.map (·.2)
        · obtain ⟨q, hq, e⟩ := List.mem_map.mp hb2
          exact .inr (.inr ⟨⟨q, hq, e⟩, (if_neg hb).trans (if_pos hb2)⟩)
        · exact .inl ((if_neg hb).trans (if_neg hb2))
    · have hm := List.mem_map_of_mem (f := (·.2)) hq
      exact (if_neg (fun e : q.2 = a => na (e ▸ hm))).trans (if_pos hm)
    · by_cases hb : b = a
      · have z' := (if_pos hb).symm.trans z
        cases z'
        subst hb
        exact ⟨ha, by rw [List.length_map]; exact hl, vs, _, rv, ha⟩
      · have z := (if_neg hb).symm.trans z
        by_cases hb2 : b ∈ ts.map (·.2)
        · have z' := (if_pos hb2).symm.trans z
          cases z'
          obtain ⟨q, hq, e⟩ := List.mem_map.mp hb2
          exact isT b ⟨q, hq, e⟩
        · have z' := (if_neg hb2).symm.trans z
          cases z'
    · by_cases hb : b = a
      · exact .inl hb
      · by_cases hb2 : b ∈ ts.map (·.2)
        · obtain ⟨q, hq, e⟩ := List.mem_map.mp hb2
          exact .inr ⟨q, hq, e⟩
        · exact absurd ((if_neg hb).trans (if_neg hb2)) z
/-- the goal that k_head leaves where the program makes functions at run time (km_head): ts are its codes and their tables -/
theorem walk_ofT {l : PySem.W.OpenLaw} {n k : Nat} {q : Program} {loose : List Str} {XP : (Str → Option Value) → Heap → Prop} {YP : World → Heap → Prop} {d : DefRec} {K : Params → PySem.W.Frag} {CX : World → CXT} {sp : World → Sp} {x : Str} {ts : List (Addr × Addr)}
    (hn : l.most = some n) (hn2 : n ≤ sizeLine) (hdf : d.params.defaults = []) (hr : Room k callerA)
    (hY : ∀ (w : World) (h : Heap), YP w h → (K w.params).In h ∧ ∀ P ∈ ts.map (·.2), h.get? P = some (PySem.W.tabObj #[]))
    (hC : ∀ w : World, ∀ q ∈ ts, PySem.W.codeHdIn (K w.params) q.1 q.2 = true) (hnt : ∀ w : World, PySem.W.noTabs (K w.params) = true)
    (F : ∀ (w : World) (mg : Str → Option Value) (fa : Addr) (h : Heap), (K w.params).In h → h.Ns mainGlobals mg → mg d.name = some (.ref fa) →
      ∃ fd : FuncData, (∀ (s : Shared) (u : Value), BindsTo s fd ⟨[u], []⟩ [(x, u)]) ∧
        ∀ base : Heap, (K w.params).In base → base.Ns mainGlobals mg → Bm mg base → FnOk l.prog w (K w.params) mg base (CX w) k fa fd [x] (sp w))
    (hsp : ∀ (w : World) (H : Hp) (a : Addr) (ns : List Int), ns.length ≤ n → OnlyT ts H → (∀ q ∈ ts, H q.2 = some (.tbl #[])) → SqL (K w.params) H a (ns.map V.int) → sp w [.ref a] H (fun v _ => v = .bl true) fun _ _ _ => False)
    (hCX : ∀ (w : World) (H : Hp) (s : Shared) (e : Value) (s' : Shared), CX w [] H s (fun _ _ _ => False) e s' → False) :
    PySem.W.WalkO q loose XP YP l.row.toRowW d [] (fun f vs => PySem.call f vs) := by
  refine Att.attach_call hn hdf fun w s₀ s₁ mg mb fa o pm cd doc a vs ns G Y ho hd hcd hmg hobj hints hlen hg => ?_
  obtain ⟨KX, hT⟩ := hY w _ Y
  obtain ⟨fd, hb, hF⟩ := F w mg fa _ KX G.T.g hmg
  obtain ⟨bm, ob, b1, b2, b3, b4, b5, b6⟩ := G.T.bmain
  exact law_callT KX G.T.g G.T.b G.T.builtins G.T.nolimit hg ⟨bm, ob, b1, b2, b3, b4, b5, b6⟩ (fun q hq => hT _ (List.mem_map_of_mem hq)) (hC w) (hnt w) hobj hints (Nat.le_trans hlen hn2) hr hF hb (fun H hO hTb hS => hsp w H a ns hlen hO hTb hS) fun H e s' => hCX w H s₁ e s'
end L2
/-! a function made at run time by a lambda: its call -/
namespace L2
open PySem PySem.Spec PyProof.Rows
/-- names: the parameters first, then the free ones -/
structure LamScope (N P : List Str) (sc : Scope) : Prop where
  kind : sc.kind = .function
  co : sc.isCoroutine = false
  gen : sc.isGenerator = false
  nd : N.Nodup
  pre : N.take P.length = P
  par : ∀ x ∈ P, sc.names.lookup x = some .local
  fre : ∀ x ∈ N.drop P.length, sc.names.lookup x = some .free
  nocell : ∀ y ∈ sc.names, y.2 ≠ .cell
/-- the cells of a closure: one each for the free names, untracked, with their values' readings -/
structure Clo (H : Hp) (h : Heap) (sc : Scope) (cl : List (Str × Addr)) (m : Str → Option V) : Prop where
  inj : ∀ x y c, cl.lookup x = some c → cl.lookup y = some c → x = y
  has : ∀ x, sc.names.lookup x = some .free → ∃ c, cl.lookup x = some c
  cell : ∀ x c, cl.lookup x = some c → ∃ v, h.IsCell c v
  free : ∀ x c, cl.lookup x = some c → H c = none
  val : ∀ x c v, cl.lookup x = some c → m x = some v → ∃ u, RelV v u ∧ h.IsCell c (some u)
def cxL (CX : CXT) (P : Program) (w : World) (K : PySem.W.Frag) (mg : Str → Option Value) (base : Heap) (N : List Str) (qual : Str) (scope : Scope) (f : Addr) (cd : Value) (cl : List (Str × Addr)) (A : Around) (outer : List Env) (s : Shared) (H : Hp) (E : XK) : Cx where
  prog := P
  w := w
  K := K
  mg := mg
  base := base
  A := A.deeper (PySem.W.envX qual scope s.heap.objs.size f cd cl)
  N := N
  s_0 := s
  H_0 := H
  env := PySem.W.envX qual scope s.heap.objs.size f cd cl
  outer := outer
  stack := PySem.W.envX qual scope s.heap.objs.size f cd cl :: outer
  ex := []
  calm := true
  fn := fun _ => false
  pn := []
  xe := fun e s' => wpAny (model P w) (A.deeper (PySem.W.envX qual scope s.heap.objs.size f cd cl)) (leaving (PySem.W.envX qual scope s.heap.objs.size f cd cl) e) (fun _ s'' => CX outer H s E e s'') (fun e' s'' => CX outer H s E e' s'') s'
/-- the names' values at the entry -/
def startL (N P : List Str) (vs : List V) (m : Str → Option V) : St := vs.map some ++ (N.drop P.length).map m
theorem inv_startL {CX : CXT} {P : Program} {w : World} {K : PySem.W.Frag} {mg : Str → Option Value} {base : Heap} {N ps : List Str} {qual : Str} {scope : Scope} {f : Addr} {cd : Value} {cl : List (Str × Addr)} {A : Around} {outer : List Env} {s : Shared} {H : Hp} {E : XK} {us : List Value} {vs : List V} {m : Str → Option V} {h1 : Heap} {tk : Nat}
    (S : LamScope N ps scope) (hd : A.handled = none) (e0 : Env0 P w K mg base A outer s H) (hl : vs.length = ps.length) (r : Vals vs us) (C : Clo H s.heap scope cl m)
    (hns : h1.Ns s.heap.objs.size fun y => (ps.zip us).reverse.lookup y) (hk : ∀ b o, s.heap.get? b = some o → h1.get? b = some o) :
    Inv (cxL CX P w K mg base N qual scope f cd cl A outer s H E) [] (startL N ps vs m) H { s with heap := h1, toks := tk } := by
  have hpl : ps.length ≤ N.length := by have := congrArg List.length S.pre; rw [List.length_take] at this; omega
  have noA : ∀ b : Addr, b ∉ (cxL CX P w K mg base N qual scope f cd cl A outer s H E).ex := fun b z => absurd (show b ∈ ([] : List Addr) from z) (by simp)
  refine ⟨⟨e0.mod, S.kind, rfl, rfl, Nat.le_refl _, C.inj, fun y hy => ?_, fun y c z _ => (nomatch (show false = true from z)), fun _ => hd, Around.frames_deeper e0.frames, .inr ⟨rfl, rfl⟩, fun b z => absurd z (noA b), e0.bs, e0.bsz, fun b _ _ => noA b, fun b z => absurd z (noA b), e0.funs, e0.frf⟩,
    rfl, e0.bare, Un.kept hk, ⟨_, hns, fun i y v h1 h2 h3 => ?_⟩, fun y c h => ?_, e0.hok.fresh (Nat.le_refl _), fun y c h => C.free y c h, fun p hp => absurd (show p ∈ ([] : List (Addr × Obj)) from hp) (by simp), e0.hok.kept hk, ?_⟩
  · have hy : scope.names.lookup y = some .cell ∨ scope.names.lookup y = some .free := hy
    rcases hy with hy | hy
    · exact absurd rfl (S.nocell _ (PySem.mem_of_lookup hy))
    · exact C.has y hy
  · have h1 : N[i]? = some y := h1
    unfold startL at h2
    by_cases hi : i < vs.length
    · rw [List.getElem?_append_left (by simpa using hi), List.getElem?_map] at h2
      have ha : vs[i]? = some v := by
        cases e : vs[i]? with
        | none => rw [e] at h2; cases h2
        | some a => rw [e] at h2; cases h2; rfl
      obtain ⟨u, hu, rv⟩ := r.get ha
      have hp : ps[i]? = some y := by rw [← S.pre, List.getElem?_take_of_lt (by omega)]; exact h1
      have ndP : ps.Nodup := by rw [← S.pre]; exact S.nd.sublist (List.take_sublist _ _)
      have kl := S.par y (List.mem_of_getElem? hp)
      refine ⟨u, rv, .inl ⟨kl, ?_⟩⟩
      have ndZ : ((ps.zip us).map (·.1)).Nodup := by
        rw [List.map_fst_zip (by rw [← r.length, hl]; exact Nat.le_refl _)]; exact ndP
      have hz : (ps.zip us)[i]? = some (y, u) := by
        rw [List.getElem?_zip_eq_some]; exact ⟨hp, hu⟩
      have key : ∀ (l : List (Str × Value)), (l.map (·.1)).Nodup → (y, u) ∈ l → l.lookup y = some u := by
        intro l
        induction l with
        | nil => intro _ h; exact nomatch h
        | cons q l ih =>
          intro nd h
          obtain ⟨a, b⟩ := q
          rw [List.lookup_cons]
          by_cases e : y = a
          · subst e
            rw [beq_self_eq_true]
            rcases List.mem_cons.mp h with h | h
            · cases h; rfl
            · exact absurd (List.mem_map_of_mem (f := (·.1)) h) (List.nodup_cons.mp nd).1
          · rw [beq_eq_false_iff_ne.mpr e]
            rcases List.mem_cons.mp h with h | h
            · cases h; exact absurd rfl e
            · exact ih (List.nodup_cons.mp nd).2 h
      refine key _ ?_ (List.mem_reverse.mpr (List.mem_of_getElem? hz))
      rw [List.map_reverse]
      exact (List.reverse_perm _).nodup_iff.mpr ndZ
    · rw [List.getElem?_append_right (by simpa using hi), List.getElem?_map] at h2
      have hd2 : (N.drop ps.length)[i - (vs.map some).length]? = some y := by
        rw [List.getElem?_drop, List.length_map, hl]
        rw [show ps.length + (i - ps.length) = i by omega]; exact h1
      rw [hd2] at h2
      have hm : m y = some v := by simpa using h2
      have hf := S.fre y (List.mem_of_getElem? hd2)
      obtain ⟨c, hc⟩ := C.has y hf
      obtain ⟨u, rv, ic⟩ := C.val y c v hc hm
      refine ⟨u, rv, .inr ⟨.inr hf, c, hc, ?_⟩⟩
      obtain ⟨o, q1, q2⟩ := ic
      exact ⟨o, hk _ _ q1, q2⟩
  · obtain ⟨v, o, q1, q2⟩ := C.cell y c h
    exact ⟨v, o, hk _ _ q1, q2⟩
  · show (startL N ps vs m).length = N.length
    unfold startL
    rw [List.length_append, List.length_map, List.length_map, List.length_drop]
    omega
theorem lam_run {CX : CXT} {P : Program} {w : World} {K : PySem.W.Frag} {mg : Str → Option Value} {base : Heap} {k : Nat} {N ps : List Str} {name qual : Str} {params : Arguments} {body : Expr} {scope : Scope} {f c' : Addr} {pm ctv : Value} {cl : List (Str × Addr)} {A : Around} {outer : List Env} {s : Shared} {H : Hp} {Q : VK} {E : XK} {us : List Value} {vs : List V} {m : Str → Option V} {t : TE}
    (hr : Room (k + 1) A) (S : LamScope N ps scope) (e0 : Env0 P w K mg base A outer s H) (ho : s.heap.get? f = some (PySem.W.kla_obj name qual params body scope cl pm c' ctv)) (hcd : s.heap.CodeRec (.ref c') qual)
    (hb : bindArgs (PySem.W.kla_fn name qual params body scope cl pm (.ref c') ctv) ⟨us, []⟩ = pure (ps.zip us)) (hl : vs.length = ps.length) (r : Vals vs us) (C : Clo H s.heap scope cl m)
    (hbody : PE (cxL CX P w K mg base N qual scope f (.ref c') cl A outer s H E) body t) (q : t (startL N ps vs m) H Q) :
    codeAny (model P w) A (.call (.ref f) ⟨us, []⟩) (CR CX outer P w H s Q E) s := by
  have lim : s.heap.NoLimit := e0.mod.nolimit.keeps fun b o e => (e0.bs b o e).1
  refine PySem.W.kla_callFunE hr.depth ho rfl S.co S.gen rfl hcd ?_
  rw [hb]
  refine wpAny_pure (wpAny_newFunctionEnv S.nocell (fun x hx => ?_) (fun h1 hns hsb => ⟨lim.fresh _ hsb, ?_⟩) S.kind)
  · obtain ⟨a, b⟩ := x
    exact S.par a (List.of_mem_zip hx).1
  have hk : ∀ b o, s.heap.get? b = some o → h1.get? b = some o := fun b o e => hsb.extBut b o (Nat.ne_of_lt (Heap.lt_size e)) (Heap.get?_push_of_some _ e)
  have I := inv_startL (CX := CX) (qual := qual) (f := f) (cd := .ref c') (E := E) (tk := s.toks + (ps.zip us).length) S hr.hd e0 hl r C hns hk
  show codeAny _ _ (.expr body (PySem.W.envX qual scope s.heap.objs.size f (.ref c') cl)) _ _
  refine PySem.W.kla_codeExpr (wpAny_mono (hbody [] _ (startL N ps vs m) H Q I q) (fun u s' hs => ?_) fun e s' hs => hs)
  obtain ⟨v, H', J, rv, q'⟩ := hs
  exact ⟨v, H', J.os, J.bare, J.base, J.hok, rv, q'⟩
end L2
/-! a lambda: it makes a function -/
namespace L2
open PySem PySem.Spec PyProof.Rows
theorem clo_eq {env : Env} : ∀ (names : List (Str × NameKind)) (acc : List (Str × Addr)), (∀ q ∈ names, q.2 = .free → ∃ c, env.cells.lookup q.1 = some c) →
    ∃ cl, (forIn names acc fun (x : Str × NameKind) (r : List (Str × Addr)) => if (x.2 == NameKind.free) = true then do let c ← cellOf env x.1; pure (ForInStep.yield ((x.1, c) :: r)) else pure (ForInStep.yield r) : Sem _) = pure cl ∧
      (∀ q ∈ cl, q ∈ acc ∨ env.cells.lookup q.1 = some q.2) ∧ (∀ q ∈ acc, q ∈ cl) ∧ ∀ q ∈ names, q.2 = .free → ∃ c, (q.1, c) ∈ cl
  | [], acc, _ => ⟨acc, rfl, fun q h => .inl h, fun q h => h, fun q h => nomatch h⟩
  | (n, k) :: r, acc, h => by
    rw [List.forIn_cons]
    by_cases e : k = .free
    · subst e
      obtain ⟨c, hc⟩ := h (n, .free) List.mem_cons_self rfl
      obtain ⟨cl, h1, h2, h3, h4⟩ := clo_eq r ((n, c) :: acc) fun q hq => h q (List.mem_cons_of_mem _ hq)
      refine ⟨cl, ?_, fun q hq => ?_, fun q hq => h3 q (List.mem_cons_of_mem _ hq), fun q hq hf => ?_⟩
      · have hcell : cellOf env n = pure c := by unfold cellOf; rw [hc]
        rw [← h1]
        simp only [beq_self_eq_true, if_true, hcell, pure_bind]
      · rcases h2 q hq with h2 | h2
        · rcases List.mem_cons.mp h2 with e | h2
          · subst e; exact .inr hc
          · exact .inl h2
        · exact .inr h2
      · rcases List.mem_cons.mp hq with e | hq
        · subst e; exact ⟨c, h3 _ List.mem_cons_self⟩
        · exact h4 q hq hf
    · obtain ⟨cl, h1, h2, h3, h4⟩ := clo_eq r acc fun q hq => h q (List.mem_cons_of_mem _ hq)
      refine ⟨cl, ?_, h2, h3, fun q hq hf => ?_⟩
      · rw [← h1]
        have : (k == NameKind.free) = false := beq_eq_false_iff_ne.mpr e
        simp only [this, Bool.false_eq_true, if_false, pure_bind]
      · rcases List.mem_cons.mp hq with e2 | hq
        · subst e2; exact absurd hf e
        · exact h4 q hq hf
theorem clo_for {env : Env} {scope : Scope} (h : ∀ q ∈ scope.names, q.2 = .free → ∃ c, env.cells.lookup q.1 = some c) :
    ∃ cl, closureFor scope env = pure cl ∧ (∀ q ∈ cl, env.cells.lookup q.1 = some q.2) ∧ ∀ q ∈ scope.names, q.2 = .free → ∃ c, (q.1, c) ∈ cl := by
  obtain ⟨cl, h1, h2, _, h4⟩ := clo_eq scope.names [] h
  refine ⟨cl, ?_, fun q hq => (h2 q hq).elim (fun z => nomatch z) id, h4⟩
  rw [← h1]
  unfold closureFor
  exact bind_pure _
/-- the function that a lambda made; the code that its code's table holds -/
def LamO (f : Addr) (name qual : Str) (params : Arguments) (body : Expr) (scope : Scope) (cl : List (Str × Addr)) (c' : Addr) : HO := .ext fun h => ∃ pm ctv, h.get? f = some (PySem.W.kla_obj name qual params body scope cl pm c' ctv)
def CodeO (c' : Addr) (qual : Str) : HO := .ext fun h => h.CodeRec (.ref c') qual
/-- the table at P holds no code yet, or the one code of pos -/
def TabO (H : Hp) (P : Addr) (pos : Pos) (qual : Str) : Prop := H P = some (.tbl #[]) ∨ ∃ c', H P = some (.tbl #[rawInt pos.line, rawInt pos.col, .ref c']) ∧ H c' = some (CodeO c' qual)
/-- the closure of a scope in the environment env -/
structure CloAt (env : Env) (scope : Scope) (cl : List (Str × Addr)) : Prop where
  from_ : ∀ q ∈ cl, env.cells.lookup q.1 = some q.2
  has : ∀ q ∈ scope.names, q.2 = .free → ∃ c, (q.1, c) ∈ cl
/-- the heap behind a lambda: f is new; P's table may have grown -/
structure LamNew (env : Env) (H H' : Hp) (f P : Addr) (pos : Pos) (qual : Str) (params : Arguments) (body : Expr) (scope : Scope) : Prop where
  fn : ∃ cl c', CloAt env scope cl ∧ H' f = some (LamO f "<lambda>" qual params body scope cl c') ∧ H' c' = some (CodeO c' qual)
  tab : TabO H' P pos qual
  new : H f = none
  old : ∀ b o, H b = some o → b ≠ P → H' b = some o
theorem among_one (pos : Pos) (c : Value) : codeAmong pos [rawInt pos.line, rawInt pos.col, c] = some c := codeAmong_snoc [] trivial rfl
section
variable {X : Cx} {params : Arguments} {body : Expr} {scope : Scope} {pos : Pos} {c P : Addr}
def tLam (env : Env) (P : Addr) (pos : Pos) (qual : Str) (params : Arguments) (body : Expr) (scope : Scope) : TE := fun σ H Q => TabO H P pos qual ∧ ∀ f H', LamNew env H H' f P pos qual params body scope → Q (.ref f) H'
theorem lamO_ok {h : Heap} {H : Hp} {PP : Program} {w : World} {f c' : Addr} {name qual : Str} {cl : List (Str × Addr)} {pm ctv : Value} (e : h.get? f = some (PySem.W.kla_obj name qual params body scope cl pm c' ctv)) : ObjOk PP w H h f (LamO f name qual params body scope cl c') :=
  ⟨⟨pm, ctv, e⟩, ⟨_, e⟩, fun h1 h2 ⟨pm, ctv, e1⟩ k => ⟨pm, ctv, k _ e1⟩⟩
theorem codeO_ok {h : Heap} {H : Hp} {PP : Program} {w : World} {c' : Addr} {qual : Str} (r : h.CodeRec (.ref c') qual) : ObjOk PP w H h c' (CodeO c' qual) := by
  have r' := r
  obtain ⟨c2, o, vs, t, e, g, d⟩ := r'
  cases e
  exact ⟨r, ⟨o, g⟩, fun h1 h2 ⟨c3, o3, vs3, t3, e3, g3, d3⟩ k => by cases e3; exact ⟨c', o3, vs3, t3, rfl, k _ g3, d3⟩⟩
theorem pe_lam (hcd : X.env.code = .ref c) (hC : PySem.W.CodeHd X.base c P) (hB : Bm X.mg X.base) (hdef : defaultsOf params X.env = ([], [])) (hfree : ∀ q ∈ scope.names, q.2 = .free → X.env.kindOf q.1 = some .cell ∨ X.env.kindOf q.1 = some .free) :
    PE X (.Lambda params body scope pos) (tLam X.env P pos (X.env.qual ++ "<lambda>") params body scope) := by
  intro pins s σ H Q I ⟨hT, q⟩
  obtain ⟨cl, hcl, c1, c2⟩ := clo_for (env := X.env) (scope := scope) fun x hx hf => I.ok.has x.1 (hfree x hx hf)
  have CA : CloAt X.env scope cl := ⟨c1, c2⟩
  refine PySem.W.kla_eval hdef ?_
  have hgs : s.heap.Ns mainGlobals X.mg := I.mod.glob.keeps I.bk
  obtain ⟨bm, ob, b1, b2, b3, b4, b5, b6⟩ := hB
  have tabAt : ∀ {ps : Array Value}, H P = some (.tbl ps) → s.heap.get? P = some (PySem.W.tabObj ps) := fun e => I.hok P _ e
  obtain ⟨ps0, eP⟩ : ∃ ps, H P = some (.tbl ps) := by
    rcases hT with e | ⟨c', e, _⟩
    · exact ⟨_, e⟩
    · exact ⟨_, e⟩
  have hgP : mainGlobals ≠ P := fun e => by
    obtain ⟨o, es, ep, e1, hd, _⟩ := hgs
    rw [e, tabAt eP] at e1; cases e1; cases hd
  have hbP : bm ≠ P := fun e => by
    have e1 := I.bk _ _ b3
    rw [e, tabAt eP] at e1; cases e1; cases b4
  have hbG : bm ≠ mainGlobals := fun e => by
    obtain ⟨o, es, ep, e1, hd, _⟩ := I.mod.glob
    rw [e, e1] at b3; cases b3; rw [hd] at b6; cases b6
  have hBA : s.heap.BuiltinsAt X.mg P := ⟨bm, ob, b1, b2, hbG, hbP, I.bk _ _ b3, b4, b5, b6⟩
  rcases hT with e | ⟨c', e, ec⟩
  · refine PySem.W.kla_makeFunction hcl I.ok.glob hgs hcd (hC.keeps I.bk) (tabAt e) trivial rfl hgP hBA fun c' ctv h' tk hx hge hlt hrec htb => ?_
    have hne : ∀ b o, H b = some o → b ≠ c' ∧ b ≠ h'.objs.size := fun b o eb => by
      have lt := (I.hok b o eb).lt
      exact ⟨Nat.ne_of_lt (Nat.lt_of_lt_of_le lt hge), Nat.ne_of_lt (Nat.lt_trans (Nat.lt_of_lt_of_le lt hge) hlt)⟩
    have hbn : ∀ b o, s.heap.get? b = some o → b ≠ c' ∧ b ≠ h'.objs.size := fun b o eb => by
      have lt := Heap.lt_size eb
      exact ⟨Nat.ne_of_lt (Nat.lt_of_lt_of_le lt hge), Nat.ne_of_lt (Nat.lt_trans (Nat.lt_of_lt_of_le lt hge) hlt)⟩
    have cf : c' ≠ h'.objs.size := Nat.ne_of_lt hlt
    have Pn := hne P _ e
    let H1 : Hp := upd (upd (upd H P (.tbl #[rawInt pos.line, rawInt pos.col, .ref c'])) c' (CodeO c' (X.env.qual ++ "<lambda>"))) h'.objs.size (LamO h'.objs.size "<lambda>" (X.env.qual ++ "<lambda>") params body scope cl c')
    have atP : H1 P = some (.tbl #[rawInt pos.line, rawInt pos.col, .ref c']) := (upd_ne Pn.2).trans ((upd_ne Pn.1).trans upd_same)
    have atC : H1 c' = some (CodeO c' (X.env.qual ++ "<lambda>")) := (upd_ne cf).trans upd_same
    have atF : H1 h'.objs.size = some (LamO h'.objs.size "<lambda>" (X.env.qual ++ "<lambda>") params body scope cl c') := upd_same
    have old : ∀ b o, H b = some o → b ≠ P → H1 b = some o := fun b o eb hb => (upd_ne (hne b o eb).2).trans ((upd_ne (hne b o eb).1).trans ((upd_ne hb).trans eb))
    have oldN : ∀ b o, s.heap.get? b = some o → b ≠ P → H1 b = H b := fun b o eb hb => (upd_ne (hbn b o eb).2).trans ((upd_ne (hbn b o eb).1).trans (upd_ne hb))
    have hh : ∀ b o, b ≠ P → s.heap.get? b = some o → (h'.push (PySem.W.kla_obj "<lambda>" (X.env.qual ++ "<lambda>") params body scope cl ((X.mg "__name__").getD .none) c' ctv)).get? b = some o := fun b o hb eb => Heap.get?_push_of_some _ (hx b o hb eb)
    have gP : (h'.push (PySem.W.kla_obj "<lambda>" (X.env.qual ++ "<lambda>") params body scope cl ((X.mg "__name__").getD .none) c' ctv)).get? P = some (PySem.W.tabObj #[rawInt pos.line, rawInt pos.col, .ref c']) := Heap.get?_push_of_some _ htb
    have nP : ∀ b, H b = none → b ≠ P := fun b n z => by rw [z, e] at n; cases n
    have U : Un X.fs [] H H1 s.heap (h'.push (PySem.W.kla_obj "<lambda>" (X.env.qual ++ "<lambda>") params body scope cl ((X.mg "__name__").getD .none) c' ctv)) := {
      keep := fun b o eb n _ _ => hh b o (nP b n) eb
      slot := fun b o eb n _ _ => ⟨o.slots, hh b o (nP b n) eb⟩
      free := fun b o eb n _ => (oldN b o eb (nP b n)).trans n
      there := fun b o eb _ => by
        by_cases hb : b = P
        · exact ⟨_, hb ▸ gP⟩
        · exact ⟨o, hh b o hb eb⟩
      tups := fun b xs eb => old b _ eb (fun z => by rw [z, e] at eb; cases eb)
      frzs := fun b o u eb => old b _ eb (fun z => by rw [z, e] at eb; cases eb)
      tbls := fun b ps eb => by
        by_cases hb : b = P
        · subst hb
          rw [e] at eb; cases eb
          exact ⟨#[rawInt pos.line, rawInt pos.col, .ref c'], by rw [atP, Array.empty_append]⟩
        · exact ⟨#[], by rw [old b _ eb hb]; simp⟩ }
    have hok : HOk X.prog X.w H1 (h'.push (PySem.W.kla_obj "<lambda>" (X.env.qual ++ "<lambda>") params body scope cl ((X.mg "__name__").getD .none) c' ctv)) := fun b o eb => by
      by_cases hf : b = h'.objs.size
      · subst hf
        rw [atF] at eb; cases eb
        exact lamO_ok (Heap.get?_push_size _ rfl)
      · by_cases hc : b = c'
        · subst hc
          rw [atC] at eb; cases eb
          exact codeO_ok (hrec.push _)
        · by_cases hb : b = P
          · subst hb
            rw [atP] at eb; cases eb
            exact gP
          · have eb' : H b = some o := by rw [← eb]; exact ((upd_ne hf).trans ((upd_ne hc).trans (upd_ne hb))).symm
            refine (I.hok b o eb').stay (fun d v hd g => hh d v ?_ g) (fun d g => old d _ g (fun z => by rw [z, e] at g; cases g)) (fun d xs g => old d _ g (fun z => by rw [z, e] at g; cases g))
            rcases hd with rfl | hd
            · exact hb
            · intro z; rw [z, e] at hd; cases hd
    exact ⟨.ref h'.objs.size, H1, I.un U hok, rfl, q _ H1 ⟨⟨cl, c', CA, atF, atC⟩, .inr ⟨c', atP, atC⟩, I.hok.fresh (Nat.le_of_lt (Nat.lt_of_le_of_lt hge hlt)), old⟩⟩
  · refine PySem.W.kla_makeFunctionHit hcl I.ok.glob hgs hcd (hC.keeps I.bk) (tabAt e) trivial (among_one pos (.ref c')) hBA fun ctv h' tk hx hge => ?_
    have fr : H h'.objs.size = none := I.hok.fresh hge
    have e2 : (h'.push (PySem.W.kla_obj "<lambda>" (X.env.qual ++ "<lambda>") params body scope cl ((X.mg "__name__").getD .none) c' ctv)).get? h'.objs.size = some _ := Heap.get?_push_size _ rfl
    have ne : ∀ b o, H b = some o → b ≠ h'.objs.size := fun b o eb z => by rw [z, fr] at eb; cases eb
    refine ⟨.ref h'.objs.size, _, I.laid (t' := tk) (a := h'.objs.size) (o := LamO h'.objs.size "<lambda>" (X.env.qual ++ "<lambda>") params body scope cl c') (fun b o eb => Heap.get?_push_of_some _ (hx b o eb)) hge (lamO_ok e2), rfl, q _ _ ⟨⟨cl, c', CA, upd_same, (upd_ne (ne _ _ ec)).trans ec⟩, .inr ⟨c', (upd_ne (ne _ _ e)).trans e, (upd_ne (ne _ _ ec)).trans ec⟩, fr, fun b o eb _ => (upd_ne (ne _ _ eb)).trans eb⟩⟩
end
end L2
/-! max(l, key=f), l a list of numbers, f a lambda that tells a number of each -/
namespace PySem
open Sem (wp)
theorem args_maxK (a f : Value) : argsOk "max" ⟨[a], [("key", f)]⟩ := by unfold argsOk; kernel_rfl
section
variable {prog : Program} {w : World} {A : Around} {E : Value → Shared → Prop} {s : Shared}
theorem call_function_treeK {id : String} {b : Builtin} {args : List Value} {kw : List (Str × Value)} {Q : Value → Shared → Prop} (hk : builtinKind id = none) (hp : plainId id = true)
    (hb : entryFor table id = some b) (ha : argsOk id ⟨args, kw⟩)
    (hc : wpAny (model prog w) A.in1 (b ⟨args, kw⟩) (fun fin s' => match fin with
      | .done f => (match (Except.ok f : Result) with | .ok (.ret v) => Q v s' | .ok _ => False | .error e => E e s')
      | .again c' => c'.quiet = true ∧ codeAny (model prog w) A c' (fun r s' => match r with | .ok (.ret v) => Q v s' | .ok _ => False | .error e => E e s') s') E s) :
    wpAny (model prog w) A (call (.builtin id) args kw) Q E s := by
  refine wpAny_call (codeAny_call_builtin hp hb ?_)
  simp only [checkBuiltinCall, hk]
  cases hsig : Manifest.signature? id with
  | none => exact wpAny_pure hc
  | some sig =>
    simp only [argsOk, hsig] at ha
    have h2 : Bind.checkArgs id sig ⟨args, kw⟩ = pure () := ha
    show wpAny _ A.in1 (Bind.checkArgs id sig ⟨args, kw⟩) _ _ s
    rw [h2]; exact wpAny_pure hc
end
end PySem
namespace L2
open PySem PySem.Spec PyProof.Rows
/-- the first of the greatest, by g: b is the best so far -/
def keyBest (g : Int → Int) (b : Int) (ns : List Int) : Int := ns.foldl (fun b n => if g n > g b then n else b) b
section
variable {X : Cx} {pins : List (Addr × Obj)} {σ : St} {H : Hp} {s : Shared}
theorem Inv.clo {scope : Scope} {cl : List (Str × Addr)} {m : Str → Option V} (I : Inv X pins σ H s) (CA : CloAt X.env scope cl)
    (hm : ∀ x v, m x = some v → (X.env.kindOf x = some .cell ∨ X.env.kindOf x = some .free) ∧ ∃ i : Nat, X.N[i]? = some x ∧ σ[i]? = some (some v)) : Clo H s.heap scope cl m where
  inj := fun x y c h1 h2 => I.ok.inj x y c (CA.from_ _ (PySem.mem_of_lookup h1)) (CA.from_ _ (PySem.mem_of_lookup h2))
  has := fun x hx => by
    obtain ⟨c, hc⟩ := CA.has (x, .free) (PySem.mem_of_lookup hx) rfl
    cases e : cl.lookup x with
    | some d => exact ⟨d, rfl⟩
    | none => exact absurd (List.lookup_eq_none_iff.mp e (x, c) hc) (by simp)
  cell := fun x c h => I.cell x c (CA.from_ _ (PySem.mem_of_lookup h))
  free := fun x c h => I.freeC x c (CA.from_ _ (PySem.mem_of_lookup h))
  val := fun x c v h e => by
    obtain ⟨kd, i, h1, h2⟩ := hm x v e
    obtain ⟨mm, _, f⟩ := I.loc
    obtain ⟨u, rv, lk⟩ := f i x v h1 h2 (by rcases kd with k | k; exact .inr (.inl k); exact .inr (.inr k))
    rcases lk with ⟨k, _⟩ | ⟨_, c2, hc2, ic⟩
    · rcases kd with k2 | k2 <;> · rw [k2] at k; exact nomatch k
    · rw [CA.from_ _ (PySem.mem_of_lookup h)] at hc2
      cases hc2
      exact ⟨u, rv, ic⟩
def E0L : XK := fun _ _ _ => False
/-- a lambda's call from the body that made it -/
theorem lam_call {A2 : Around} {k : Nat} {N ps : List Str} {name qual : Str} {params : Arguments} {body : Expr} {scope : Scope} {f c' : Addr} {cl : List (Str × Addr)} {E' : Value → Shared → Prop} {Q : VK} {us : List Value} {vs : List V} {m : Str → Option V} {t : TE}
    (I : Inv X pins σ H s) (hfr : A2.frames = some X.stack) (hr : Room (k + 1) A2) (S : LamScope N ps scope) (CA : CloAt X.env scope cl) (ef : H f = some (LamO f name qual params body scope cl c')) (ec : H c' = some (CodeO c' qual))
    (hb : ∀ pm ctv, bindArgs (PySem.W.kla_fn name qual params body scope cl pm (.ref c') ctv) ⟨us, []⟩ = pure (ps.zip us)) (hl : vs.length = ps.length) (r : Vals vs us)
    (hm : ∀ x v, m x = some v → (X.env.kindOf x = some .cell ∨ X.env.kindOf x = some .free) ∧ ∃ i : Nat, X.N[i]? = some x ∧ σ[i]? = some (some v))
    (hbody : PE (cxL CX0 X.prog X.w X.K X.mg X.base N qual scope f (.ref c') cl A2 X.stack s H E0L) body t) (q : t (startL N ps vs m) H Q) :
    wpAny (model X.prog X.w) A2 (call (.ref f) us) (EP X pins σ Q) E' s := by
  obtain ⟨⟨pm, ctv, ho⟩, _⟩ : ObjOk X.prog X.w H s.heap f (LamO f name qual params body scope cl c') := I.hok f _ ef
  obtain ⟨hcd, _⟩ : ObjOk X.prog X.w H s.heap c' (CodeO c' qual) := I.hok c' _ ec
  have e0 : Env0 X.prog X.w X.K X.mg X.base A2 X.stack s H := ⟨hfr, I.ok.mod, I.bs, Nat.le_trans I.ok.bsz I.sz, I.stack, I.stkFree, I.hok, I.bare⟩
  refine wpAny_call (codeAny_mono (lam_run (CX := CX0) (k := k) hr S e0 ho hcd (hb pm ctv) hl r (I.clo CA hm) hbody q) fun r s' hq => ?_)
  cases r with
  | error e => exact False.elim hq
  | ok fl =>
    cases fl with
    | ret u => exact I.after hq
    | next => exact False.elim hq
    | brk => exact False.elim hq
    | cont => exact False.elim hq
/-- f tells g n of each number n of ns, and changes nothing -/
def KeyCall (X : Cx) (σ : St) (H : Hp) (A2 : Around) (f : Addr) (g : Int → Int) (n : Int) : Prop := ∀ (pins : List (Addr × Obj)) (s : Shared) (u : Value) (E : Value → Shared → Prop), Inv X pins σ H s → RelV (.int n) u →
  wpAny (model X.prog X.w) A2 (call (.ref f) [u]) (fun v s' => RelV (.int (g n)) v ∧ Inv X pins σ H s') E s
theorem key_pins {A2 : Around} {f : Addr} {g : Int → Int} {n : Int} (K : KeyCall X σ H A2 f g n) {fp : List Addr} {u : Value} {E : Value → Shared → Prop} (I : Inv X pins σ H s) (hf : ∀ b ∈ fp, FpOk X pins H b) (ho : ∀ b ∈ fp, ∃ o, s.heap.get? b = some o ∧ ∀ v, o.data ≠ .cell v) (ru : RelV (.int n) u)
    {Q : Value → Shared → Prop} (q : ∀ v s', RelV (.int (g n)) v → Inv X pins σ H s' → (∀ b ∈ fp, ∀ o, s.heap.get? b = some o → s'.heap.get? b = some o) → Q v s') : wpAny (model X.prog X.w) A2 (call (.ref f) [u]) Q E s :=
  wpAny_mono (K _ s u E (I.pinned hf ho) ru) (fun v s' ⟨rv, I'⟩ => q v s' rv I'.unpinned fun b hb o e => (I'.pin (b, o) (List.mem_append_right _ (List.mem_append_right _ (mem_pinsAt hb e)))).1) fun _ _ z => z
abbrev lst2 (xs : Array Value) (c : Nat) : Obj := { cls := .type "list", dict := none, data := .seq xs c, slots := #[] }
theorem maxk_loop {A2 : Around} (hhd : A2.handled = none) {f l I0 S : Addr} {g : Int → Int} {ns : List Int} {fin : Int} {R : Result → Shared → Prop} (hl : H l = some (.lst (ns.map V.int))) (KO : ∀ n ∈ ns, KeyCall X σ H A2.in1 f g n) (hI : FpOk X pins H I0) (hS : FpOk X pins H S) (hne : I0 ≠ S)
    (hR : ∀ u s', RelV (.int fin) u → Inv X pins σ H s' → R (.ok (.ret u)) s') :
    ∀ (rest : List Int) (j : Nat) (b : Int) (s : Shared) (ib vb : Value) (c : Nat), ns.drop j = rest → keyBest g b rest = fin → Inv X pins σ H s → s.heap.IsListIter I0 l j → s.heap.get? S = some (lst2 #[ib, vb] c) → RelV (.int b) ib → RelV (.int (g b)) vb →
      codeAny (model X.prog X.w) A2 (.builtin "max.loop" ⟨[.ref I0, .ref f, .ref S], []⟩) R s := by
  have hname : (toString "max" ++ toString ".loop" : String) = "max.loop" := by decide
  have fpo : ∀ b ∈ [I0, S], FpOk X pins H b := fun b hb => by
    rcases List.mem_cons.mp hb with rfl | hb
    · exact hI
    · rw [List.mem_singleton.mp hb]; exact hS
  have turnI : ∀ {s : Shared} {h' : Heap}, Inv X pins σ H s → Heap.ExtBut I0 s.heap h' → Inv X pins σ H { s with heap := h' } := fun I hx => I.turned (t' := _) (fun b o hb e => hx b o hb e) hI.1 hI.2.1 hI.2.2.2.1 hI.2.2.2.2.1 hI.2.2.2.2.2
  have turnS : ∀ {s : Shared} {f : Array Value → Array Value}, Inv X pins σ H s → Inv X pins σ H { s with heap := s.heap.update S (Obj.mapSeq f) } := fun I => I.turned (t' := _) (fun b o hb e => (Heap.get?_update_other _ _ (Ne.symm hb)).trans e) hS.1 hS.2.1 hS.2.2.2.1 hS.2.2.2.2.1 hS.2.2.2.2.2
  intro rest
  induction rest with
  | nil =>
    intro j b s ib vb c hj hf I hit hSo rb rv
    obtain ⟨its, rl, pl, _⟩ := I.list (SqL.of hl)
    have hend : its.toArray[j]? = none := by
      have : ns.length ≤ j := List.drop_eq_nil_iff.mp hj
      have e := rl.length
      rw [List.length_map] at e
      rw [List.getElem?_toArray]
      exact List.getElem?_eq_none (by omega)
    refine codeAny_builtin F.entry_max_loop ?_
    rw [Around.under_plainId F.plain_max_loop _]
    show wpAny _ A2.in1 (seqItems? (.ref S) >>= _) _ _ s
    refine wpAny_bind (wpAny_seqItems hSo rfl ?_)
    show wpAny _ A2.in1 (tryCatch (pyNext (.ref I0)) _ >>= _) _ _ s
    refine wpAny_bind (wpAny_tryCatch (wpAny_pyNext_list_end hhd hit pl.isList hend fun h' hx => ?_))
    show wpAny _ A2.in1 (updateSeq S (fun _ => #[]) >>= _) _ _ _
    refine wpAny_bind (wpAny_updateSeq (hx S _ (Ne.symm hne) hSo) rfl (wpAny_bind (wpAny_letGo (wpAny_pure ?_))))
    obtain rfl : b = fin := hf
    exact hR _ _ rb (turnS (turnI I hx))
  | cons n rest ih =>
    intro j b s ib vb c hj hf I hit hSo rb rv
    obtain ⟨its, rl, pl, _⟩ := I.list (SqL.of hl)
    have hn : ns[j]? = some n := by
      have : (ns.drop j)[0]? = some n := by rw [hj]; rfl
      rw [List.getElem?_drop] at this; exact this
    have hmem : n ∈ ns := List.mem_of_getElem? hn
    obtain ⟨u, hu, ru⟩ := rl.get (i := j) (x := V.int n) (by rw [List.getElem?_map, hn]; rfl)
    refine codeAny_builtin F.entry_max_loop ?_
    rw [Around.under_plainId F.plain_max_loop _]
    show wpAny _ A2.in1 (seqItems? (.ref S) >>= _) _ _ s
    refine wpAny_bind (wpAny_seqItems hSo rfl ?_)
    show wpAny _ A2.in1 (tryCatch (pyNext (.ref I0)) _ >>= _) _ _ s
    refine wpAny_bind (wpAny_tryCatch (wpAny_pyNext_list_item hit pl.isList (x := u) (by rw [List.getElem?_toArray]; exact hu) fun h' hit' hx => ?_))
    have hS1 : h'.get? S = some (lst2 #[ib, vb] c) := (hx.2 S (Ne.symm hne)).trans hSo
    have I1 := turnI I hx.extBut
    show wpAny _ A2.in1 (tryCatch (holding [u] (call (.ref f) [u])) _ >>= _) _ _ _
    refine wpAny_bind (wpAny_tryCatch (wpAny_holding (key_pins (KO n hmem) I1 fpo (fun b hb => ?_) ru fun v s2 rv2 I2 kp => ?_)))
    · rcases List.mem_cons.mp hb with rfl | hb
      · obtain ⟨o, e, _, d⟩ := hit'
        exact ⟨o, e, fun v z => by rw [d] at z; cases z⟩
      · rw [List.mem_singleton.mp hb]
        exact ⟨_, hS1, fun v z => nomatch z⟩
    have hS2 := kp S (by simp) _ hS1
    have hit2 : s2.heap.IsListIter I0 l (j + 1) := by
      obtain ⟨o, e, r⟩ := hit'
      exact ⟨o, kp I0 (by simp) _ e, r⟩
    obtain ⟨t1, rfl⟩ := rv2
    obtain ⟨t2, rfl⟩ := rv
    show wpAny _ A2.in1 (tryCatch (holding [u, .int (g n) t1] (richCompare .Gt (.int (g n) t1) (.int (g b) t2) >>= _)) _ >>= _) _ _ _
    have cmp := CmpOf.ints_gt (prog := X.prog) (w := X.w) (A := A2.in1) (P := fun i v => (i = 0 ∧ v = Value.int (g n) t1) ∨ (i = 1 ∧ v = Value.int (g b) t2)) (fun i => if i = 0 then g n else g b) (fun i v h => by
      rcases h with ⟨rfl, rfl⟩ | ⟨rfl, rfl⟩
      · exact ⟨t1, rfl⟩
      · exact ⟨t2, rfl⟩)
    refine wpAny_bind (wpAny_tryCatch (wpAny_holding (wpAny_bind (cmp 0 1 _ _ _ _ _ (.inl ⟨rfl, rfl⟩) (.inr ⟨rfl, rfl⟩) ?_))))
    refine wpAny_bind (wpAny_holding (wpAny_truthy_bool ?_))
    refine wpAny_bind (wpAny_letGo (wpAny_pure ?_))
    have hnx : ns.drop (j + 1) = rest := by
      rw [← List.drop_drop, hj]; rfl
    have hf' : keyBest g (if g n > g b then n else b) rest = fin := hf
    have hcb : decide ((if (0 : Nat) = 0 then g n else g b) > (if (1 : Nat) = 0 then g n else g b)) = decide (g n > g b) := rfl
    by_cases hgt : g n > g b
    · rw [if_pos hgt] at hf'
      simp only [Nat.one_ne_zero, if_true, if_false, decide_eq_true hgt]
      refine wpAny_bind (wpAny_updateSeq hS2 rfl (wpAny_bind (wpAny_letGo ?_)))
      rw [hname]
      refine wpAny_pure ⟨plainId_quiet F.plain_max_loop _, ih (j + 1) n _ u (.int (g n) t1) _ hnx hf' (turnS I2) ?_ (Heap.get?_update_self _ hS2 rfl) ru ⟨t1, rfl⟩⟩
      obtain ⟨o, e, r⟩ := hit2
      exact ⟨o, (Heap.get?_update_other _ _ (Ne.symm hne)).trans e, r⟩
    · rw [if_neg hgt] at hf'
      simp only [Nat.one_ne_zero, if_true, if_false, decide_eq_false hgt, Bool.false_eq_true]
      refine wpAny_bind (wpAny_letGo ?_)
      rw [hname]
      exact wpAny_pure ⟨plainId_quiet F.plain_max_loop _, ih (j + 1) b _ ib (.int (g b) t2) c hnx hf' I2 hit2 hS2 rb ⟨t2, rfl⟩⟩
end
end L2
namespace L2
open PySem PySem.Spec PyProof.Rows
section
variable {X : Cx} {pins : List (Addr × Obj)} {σ : St} {H : Hp} {s : Shared}
theorem maxk_first {A2 : Around} (hhd : A2.handled = none) {f l I0 S : Addr} {g : Int → Int} {b0 : Int} {rest : List Int} {R : Result → Shared → Prop} (hl : H l = some (.lst ((b0 :: rest).map V.int))) (KO : ∀ n ∈ b0 :: rest, KeyCall X σ H A2.in1 f g n) (hI : FpOk X pins H I0) (hS : FpOk X pins H S) (hne : I0 ≠ S)
    (hR : ∀ u s', RelV (.int (keyBest g b0 rest)) u → Inv X pins σ H s' → R (.ok (.ret u)) s') {c : Nat} (I : Inv X pins σ H s) (hit : s.heap.IsListIter I0 l 0) (hSo : s.heap.get? S = some (lst2 #[] c)) :
    codeAny (model X.prog X.w) A2 (.builtin "max.loop" ⟨[.ref I0, .ref f, .ref S], []⟩) R s := by
  have hname : (toString "max" ++ toString ".loop" : String) = "max.loop" := by decide
  have fpo : ∀ b ∈ [I0, S], FpOk X pins H b := fun b hb => by
    rcases List.mem_cons.mp hb with rfl | hb
    · exact hI
    · rw [List.mem_singleton.mp hb]; exact hS
  obtain ⟨its, rl, pl, _⟩ := I.list (SqL.of hl)
  obtain ⟨u, hu, ru⟩ := rl.get (i := 0) (x := V.int b0) rfl
  refine codeAny_builtin F.entry_max_loop ?_
  rw [Around.under_plainId F.plain_max_loop _]
  show wpAny _ A2.in1 (seqItems? (.ref S) >>= _) _ _ s
  refine wpAny_bind (wpAny_seqItems hSo rfl ?_)
  show wpAny _ A2.in1 (tryCatch (pyNext (.ref I0)) _ >>= _) _ _ s
  refine wpAny_bind (wpAny_tryCatch (wpAny_pyNext_list_item hit pl.isList (x := u) (by rw [List.getElem?_toArray]; exact hu) fun h' hit' hx => ?_))
  have hS1 : h'.get? S = some (lst2 #[] c) := (hx.2 S (Ne.symm hne)).trans hSo
  have I1 : Inv X pins σ H { s with heap := h' } := I.turned (t' := _) (fun b o hb e => hx.extBut b o hb e) hI.1 hI.2.1 hI.2.2.2.1 hI.2.2.2.2.1 hI.2.2.2.2.2
  show wpAny _ A2.in1 (tryCatch (holding [u] (call (.ref f) [u])) _ >>= _) _ _ _
  refine wpAny_bind (wpAny_tryCatch (wpAny_holding (key_pins (KO b0 List.mem_cons_self) I1 fpo (fun b hb => ?_) ru fun v s2 rv2 I2 kp => ?_)))
  · rcases List.mem_cons.mp hb with rfl | hb
    · obtain ⟨o, e, _, d⟩ := hit'
      exact ⟨o, e, fun v z => by rw [d] at z; cases z⟩
    · rw [List.mem_singleton.mp hb]
      exact ⟨_, hS1, fun v z => nomatch z⟩
  have hS2 := kp S (by simp) _ hS1
  show wpAny _ A2.in1 (updateSeq S (fun _ => #[u, v]) >>= _) _ _ _
  refine wpAny_bind (wpAny_updateSeq hS2 rfl ?_)
  rw [hname]
  refine wpAny_pure ⟨plainId_quiet F.plain_max_loop _, maxk_loop hhd hl KO hI hS hne hR rest 1 b0 _ u v _ rfl rfl ?_ ?_ (Heap.get?_update_self _ hS2 rfl) ru rv2⟩
  · exact I2.turned (t' := _) (fun b o hb e => (Heap.get?_update_other _ _ (Ne.symm hb)).trans e) hS.1 hS.2.1 hS.2.2.2.1 hS.2.2.2.2.1 hS.2.2.2.2.2
  · obtain ⟨o, e, r⟩ := hit'
    exact ⟨o, (Heap.get?_update_other _ _ (Ne.symm hne)).trans (kp I0 (by simp) _ e), r⟩
theorem call_maxk (hc : X.calm = true) {f l : Addr} {g : Int → Int} {b0 : Int} {rest : List Int} {Q : VK} (I : Inv X pins σ H s) (hl : H l = some (.lst ((b0 :: rest).map V.int))) (KO : ∀ n ∈ b0 :: rest, KeyCall X σ H X.A.in1 f g n) (q : Q (.int (keyBest g b0 rest)) H) :
    wpAny (model X.prog X.w) X.A (call (.builtin "max") [.ref l] [("key", .ref f)]) (EP X pins σ Q) X.xe s := by
  have hname : (toString "max" ++ toString ".loop" : String) = "max.loop" := by decide
  obtain ⟨its, rl, pl, _⟩ := I.list (SqL.of hl)
  refine call_function_treeK F.kind_max F.plain_max F.entry_max (args_maxK _ _) ?_
  show wpAny _ X.A.in1 (Builtin.Builtins.bindParams "max" ["key", "default"] 0 ⟨[], [("key", .ref f)]⟩ >>= _) _ _ s
  refine wpAny_bind (wpAny_of_eq (show Builtin.Builtins.bindParams "max" ["key", "default"] 0 ⟨[], [("key", .ref f)]⟩ = pure [some (.ref f), none] from rfl) ?_)
  refine wpAny_bind (wpAny_pure ?_)
  refine wpAny_bind (wpAny_pyIter_list pl.isList ?_)
  refine wpAny_bind (wpAny_newObj_type ?_)
  rw [hname]
  have I1 : Inv X pins σ H { s with heap := s.heap.push { cls := .type "list_iterator", data := .fields #[.ref l, .int 0 0] } } := I.kept (t' := _) fun b u e => Heap.get?_push_of_some _ e
  have I2 : Inv X pins σ H { s with heap := (s.heap.push { cls := .type "list_iterator", data := .fields #[.ref l, .int 0 0] }).push { cls := .type "list", data := .seq #[] 0 } } := I1.kept (t' := _) fun b u e => Heap.get?_push_of_some _ e
  have hsz : (s.heap.push { cls := .type "list_iterator", data := .fields #[.ref l, .int 0 0] }).objs.size = s.heap.objs.size + 1 := Heap.size_push _ _
  refine wpAny_pure ⟨plainId_quiet F.plain_max_loop _, maxk_first (A2 := X.A) (I.ok.hd hc) hl KO (I.fpOk (Nat.le_refl _) (I.hok.fresh (Nat.le_refl _))) (I.fpOk (by rw [hsz]; exact Nat.le_succ _) (I.hok.fresh (by rw [hsz]; exact Nat.le_succ _))) (by rw [hsz]; exact Nat.ne_of_lt (Nat.lt_succ_self _)) (fun u s' ru I' => ⟨_, H, I', ru, q⟩) I2 ⟨_, Heap.get?_push_of_some _ (Heap.get?_push_size _ rfl), rfl, rfl⟩ (Heap.get?_push_size _ rfl)⟩
def tMaxK (X : Cx) (te tl : TE) : TE := fun σ H Q => te σ H fun x H1 => tl σ H1 fun y H2 => ∃ l b0 rest f g, x = .ref l ∧ y = .ref f ∧ H2 l = some (.lst ((b0 :: rest).map V.int)) ∧ (∀ n ∈ b0 :: rest, KeyCall X σ H2 X.A.in1 f g n) ∧ Q (.int (keyBest g b0 rest)) H2
/-- max(e, key=l) -/
theorem pe_maxK {e lam : Expr} {te tl : TE} {p pos kpos : Pos} (hc : X.calm = true) (hg : Gl X "max") (hm : X.mg "max" = none) (he : PE X e te) (hlam : PE X lam tl)
    (h0 : starEach [e] X.env = (false, eval e X.env) :: starEach [] X.env := by rfl) (h1 : backTo pos (starEach [e] X.env) = (false, eval e X.env) :: backTo pos (starEach [] X.env) := by rfl) (h2 : (backTo pos (starEach [e] X.env)).any (·.1) = false := by rfl) :
    PE X (.Call (.Name "max" p) [e] [⟨some "key", lam, kpos⟩] pos) (tMaxK X te tl) := by
  intro pins s σ H Q I h
  refine wpAny_Call_Name_kw (ld_blt I hg hm boot_max ?_ (by decide) (by decide))
  refine PyProof.Rows.callWith_kw ?_ h1 h2
  let Q2 : V → List V → Hp → Prop := fun x ys H2 => match ys with
    | [y] => ∃ l b0 rest f g, x = .ref l ∧ y = .ref f ∧ H2 l = some (.lst ((b0 :: rest).map V.int)) ∧ (∀ n ∈ b0 :: rest, KeyCall X σ H2 X.A.in1 f g n) ∧ Q (.int (keyBest g b0 rest)) H2
    | _ => False
  let Q1 : List V → Hp → Prop := fun xs H1 => match xs with
    | [x] => tl σ H1 fun y H2 => Q2 x [y] H2
    | _ => False
  refine thn ((pa_cons he pa_nil h0) pos pins s σ H Q1 I h) fun us s1 ⟨vs, H1, I1, r1, q1⟩ => ?_
  match vs, r1, q1 with
  | [x], .cons rx .nil, q1 =>
    refine thn ((pk_cons hlam pk_nil) pos pins s1 σ H1 (Q2 x) I1 q1) fun ws s2 ⟨ys, H2, I2, r2, q2⟩ => ?_
    match ys, r2, q2 with
    | [y], .cons ry .nil, q2 =>
      obtain ⟨l, b0, rest, f, g, ex, ey, hl, KO, q3⟩ := q2
      subst ex; subst ey
      cases rx; cases ry
      exact call_maxk hc I2 hl KO q3
end
end L2
/-! list(d), d a dict: its keys -/
namespace L2
open PySem PySem.Spec PyProof.Rows
section
variable {X : Cx}
theorem call_listD (hc : X.calm = true) : CallR X (.type "list") (fun xs H Q => ∃ a kvs, xs = [.ref a] ∧ Rd H a (.dK kvs) ∧ ∀ l, H l = none → Q (.ref l) (upd H l (.lst (kvs.map fun kv => kV kv.1)))) := by
  intro pins s σ H xs us Q I r h
  obtain ⟨a, kvs, rfl, ha, q⟩ := h
  obtain ⟨u, rfl, ru⟩ := vals1 r
  cases ru
  obtain ⟨z, hd, vs, rel, dd⟩ := dk_rd I.hok ha
  obtain ⟨o, es, ep, e1, e2, e3, e4, e5, e6⟩ := dd
  have hlen : kvs.length = vs.length := rel.length
  refine PySem.W.kdl_call (PySem.W.kdl_dict (knd := mixKind X.prog X.w) (kvs := vs) (ep := ep) hd) (I.ok.hd hc) ⟨o, es, e1, e2, e3, e4, e5, e6⟩ (by omega) fun h' tk acc' c' hk hD hacc => ?_
  refine ⟨.ref s.heap.objs.size, _, I.laid (t' := tk) (o := .lst (kvs.map fun kv => kV kv.1)) hk (Nat.le_refl _) (show ObjOk X.prog X.w _ h' _ (.lst (kvs.map fun kv => kV kv.1)) from ⟨by rw [List.length_map]; exact z, acc'.toList, c', ?_, by simpa using hD⟩), rfl, q _ (I.hok.fresh (Nat.le_refl _))⟩
  refine paired_ix (by have := hacc.1; rw [List.length_map, hlen]; simpa using this.symm) fun k x y h1 h2 => ?_
  rw [Array.getElem?_toList] at h2
  obtain ⟨k', x', h3, h4⟩ := hacc.2 k y h2
  rw [List.getElem?_map] at h1
  cases hkv : kvs[k]? with
  | none => rw [hkv] at h1; cases h1
  | some kv =>
    rw [hkv] at h1
    cases h1
    have hk2 : kv.1 = k' := by
      have : ∀ {l : List (Key × V)} {m : List (Key × Value)} {i : Nat} {a : Key × V} {b : Key × Value}, KV l m → l[i]? = some a → m[i]? = some b → a.1 = b.1 := by
        intro l m i a b hh
        induction hh generalizing i with
        | nil => intro e; simp at e
        | cons h t ih =>
          intro e e'
          cases i with
          | zero => simp at e e'; subst e; subst e'; exact h.1
          | succ i => exact ih (by simpa using e) (by simpa using e')
      exact this rel hkv h3
    subst hk2
    have h4 : keyIs kv.1 y = true := h4
    show RelV (kV kv.1) y
    rcases keyIs_shape h4 with ⟨i, t, e, rfl⟩ | ⟨x2, t, e, rfl⟩
    · rw [e]; exact ⟨t, rfl⟩
    · rw [e]; exact ⟨t, rfl⟩
/-- range(i, j), a thing -/
theorem pe_rg2 {a b : Expr} {ta : TA} {p pos : Pos} (hg : Gl X "range") (hm : X.mg "range" = none) (ha : PA X [a, b] ta)
    (hs : starEach [a, b] X.env = (false, eval a X.env) :: starEach [b] X.env := by rfl) (hpl : (backTo pos (starEach [b] X.env)).any (·.1) = false := by rfl) :
    PE X (.Call (.Name "range" p) [a, b] [] pos) (fun σ H Q => ta σ H fun vs H1 => ∃ i j : Int, vs = [.int i, .int j] ∧ ∀ r, H1 r = none → Q (.ref r) (upd H1 r (.ext (RgX r i j 1)))) := by
  intro pins s σ H Q I h
  refine Call_ (ld_blt I hg hm boot_range (PyProof.Rows.callWith_type1 (thn (ha pos pins s σ H _ I h) fun us s1 ⟨vs, H1, I1, r1, q1⟩ => ?_) hs hpl))
  obtain ⟨i, j, e, q⟩ := q1
  subst e
  cases r1 with
  | cons r rr =>
    cases rr with
    | cons r' rr =>
      cases rr
      obtain ⟨t, rfl⟩ := r
      obtain ⟨t', rfl⟩ := r'
      exact call_range_2 ⟨.ref s1.heap.objs.size, _, rg_laid I1, rfl, q _ (I1.hok.fresh (Nat.le_refl _))⟩
theorem RgC.pos {i j : Int} (ha : -(2 ^ 62) ≤ i) (ha' : i < 2 ^ 62) (hb : -(2 ^ 62) ≤ j) (hb' : j < 2 ^ 62) : RgC i j 1 (j - i).toNat := ⟨by decide, by decide, small_one ha ha' hb hb', by rw [rangeSize_one]; split <;> omega⟩
end
end L2
namespace Mk
open PySem L2 PyProof.Rows
def top (i : Nat) : Stmt := PySem.Challenge.pw_pixelstages_k43_the_greatest_rounding.main.body.getD i (.Pass ⟨0, 0, 0, 0⟩)
section
variable {P : Program} {w : World} {K : PySem.W.Frag} {mg : Str → Option Value} {base : Heap}
/-! ### _law_same: two things that are the same, to a depth, are told to be -/
theorem Same.rfl {H : Hp} : Same H H := fun _ _ e => e
theorem same_new {H : Hp} {p : Addr} (h : H p = none) (o : HO) : Same H (upd H p o) := fun b u q => by rw [upd_ne (ne_of_none q h)]; exact q
/-- the kind of both -/
theorem Sm.kinds {H : Hp} {n : Nat} {x y : V} (h : Sm K H n x y) : ∃ k, KiV K H x k ∧ KiV K H y k ∧
    ((∃ b, k = .bl ∧ x = .bl b ∧ y = .bl b) ∨ (k = .non ∧ x = .non ∧ y = .non) ∨ (∃ i, k = .int ∧ x = .int i ∧ y = .int i) ∨ (∃ z, k = .str ∧ x = .str z ∧ y = .str z) ∨ (∃ a kvs, k = .dct ∧ x = .ref a ∧ y = .ref a ∧ Rd H a (.dK kvs)) ∨
      (∃ m a b xs ys, k = .lst ∧ n = m + 1 ∧ x = .ref a ∧ y = .ref b ∧ SqL K H a xs ∧ SqL K H b ys ∧ Paired (Sm K H m) xs ys ∧ xs.length ≤ 10000) ∨ (∃ m a b xs ys, k = .tup ∧ n = m + 1 ∧ x = .ref a ∧ y = .ref b ∧ SqT K H a xs ∧ SqT K H b ys ∧ Paired (Sm K H m) xs ys ∧ xs.length ≤ 10000)) := by
  cases n with
  | zero => exact h.elim
  | succ m =>
    rcases h with ⟨rfl, f⟩ | ⟨a, kvs, rfl, rfl, hd⟩ | ⟨a, b, xs, ys, rfl, rfl, h1, h2, p, z⟩ | ⟨a, b, xs, ys, rfl, rfl, h1, h2, p, z⟩
    · cases x with
      | non => exact ⟨.non, rfl, rfl, .inr (.inl ⟨rfl, rfl, rfl⟩)⟩
      | bl b => exact ⟨.bl, rfl, rfl, .inl ⟨b, rfl, rfl, rfl⟩⟩
      | int i => exact ⟨.int, rfl, rfl, .inr (.inr (.inl ⟨i, rfl, rfl, rfl⟩))⟩
      | str z => exact ⟨.str, rfl, rfl, .inr (.inr (.inr (.inl ⟨z, rfl, rfl, rfl⟩)))⟩
      | _ => cases f
    · exact ⟨.dct, .inr (.inr ⟨rfl, kvs, hd⟩), .inr (.inr ⟨rfl, kvs, hd⟩), .inr (.inr (.inr (.inr (.inl ⟨a, kvs, rfl, rfl, rfl, hd⟩))))⟩
    · exact ⟨.lst, .inl ⟨rfl, xs, h1⟩, .inl ⟨rfl, ys, h2⟩, .inr (.inr (.inr (.inr (.inr (.inl ⟨m, a, b, xs, ys, rfl, rfl, rfl, rfl, h1, h2, p, z⟩)))))⟩
    · exact ⟨.tup, .inr (.inl ⟨rfl, xs, h1⟩), .inr (.inl ⟨rfl, ys, h2⟩), .inr (.inr (.inr (.inr (.inr (.inr ⟨m, a, b, xs, ys, rfl, rfl, rfl, rfl, h1, h2, p, z⟩)))))⟩
theorem KiV.same {H H' : Hp} (s : Same H H') {x : V} {k : Ki} (h : KiV K H x k) : KiV K H' x k := by
  cases x with
  | ref a => exact h.imp (fun ⟨e, xs, q⟩ => ⟨e, xs, q.same s⟩) (fun h => h.imp (fun ⟨e, xs, q⟩ => ⟨e, xs, q.same s⟩) fun ⟨e, kvs, q⟩ => ⟨e, kvs, q.same s⟩)
  | _ => exact h
theorem paired_get {α β : Type} {F : α → β → Prop} : ∀ {l : List α} {m : List β} {i : Nat} {x : α} {y : β}, Paired F l m → l[i]? = some x → m[i]? = some y → F x y
  | _, _, i, _, _, .nil, e, _ => by simp at e
  | _, _, 0, _, _, .cons q _, e, e' => by simp at e e'; subst e e'; exact q
  | _, _, i + 1, _, _, .cons _ t, e, e' => paired_get (i := i) t (by simpa using e) (by simpa using e')
theorem iteB {c : Bool} {A B : Prop} (h : c = true) (a : A) : if c = true then A else B := by subst h; exact iteT a
theorem iteC {c : Bool} {A B : Prop} (h : c = false) (b : B) : if c = true then A else B := by subst h; exact iteF b
theorem yes_then {σ : L2.St} {H : Hp} {A B : Hp → Prop} (h : A H) : tYes σ H (fun b H3 => if b = true then A H3 else B H3) := by
  show if true = true then A H else B H
  exact iteT h
end
end Mk
namespace L2
open PySem PySem.Spec PyProof.Rows
/-! ### operators that hand on a letter -/
section
variable {X : Cx}
theorem op_let {f : Value → Value → Sem Value} {C : Int → Int → Prop} {h : Int → Int → Int} (R : Int → Int → Int → Prop) (o : OpR X f (rI C fun i j => .int (h i j))) (hR : ∀ i j, C i j → R i j (h i j)) :
    OpR X f (fun x y H Q => ∃ i j, x = .int i ∧ y = .int j ∧ C i j ∧ ∀ r, R i j r → Q (.int r) H) := fun pins s σ H x y v u Q I rx ry ⟨i, j, e1, e2, c, q⟩ => o pins s σ H x y v u Q I rx ry ⟨i, j, e1, e2, c, q _ (hR i j c)⟩
theorem op_modB : OpR X (binaryOp .Mod) (fun x y H Q => ∃ i j, x = .int i ∧ y = .int j ∧ 0 < j ∧ ∀ r, (0 ≤ r ∧ r < j) → Q (.int r) H) := op_let (fun _ j r => 0 ≤ r ∧ r < j) op_mod fun i j c => ⟨Int.emod_nonneg _ (by omega), Int.emod_lt_of_pos _ c⟩
theorem op_fdivB : OpR X (binaryOp .FloorDiv) (fun x y H Q => ∃ i j, x = .int i ∧ y = .int j ∧ CDiv i j ∧ ∀ r, True → Q (.int r) H) := op_let (fun _ _ _ => True) op_fdiv fun _ _ _ => trivial
theorem op_mulB : OpR X (binaryOp .Mult) (fun x y H Q => ∃ i j, x = .int i ∧ y = .int j ∧ CMul i j ∧ ∀ r, True → Q (.int r) H) := op_let (fun _ _ _ => True) op_mul fun _ _ _ => trivial
theorem op_powB : OpR X (binaryOp .Pow) (fun x y H Q => ∃ i j, x = .int i ∧ y = .int j ∧ CPow i j ∧ ∀ r, True → Q (.int r) H) := op_let (fun _ _ _ => True) op_pow fun _ _ _ => trivial
end
end L2
namespace Mk
open PySem L2 PyProof.Rows
abbrev sPen : Stmt := top 36
abbrev sDraw : Stmt := top 37
section
variable {P : Program} {w : World} {K : PySem.W.Frag} {mg : Str → Option Value} {base : Heap}
theorem at_int {ns : List Int} {k : Int} (h0 : 0 ≤ k) (h : k < (ns.length : Int)) : ∃ v : Int, atI (ns.map V.int) k = some (.int v) := by
  have hk : k.toNat < ns.length := by omega
  have ek : k = ((k.toNat : Nat) : Int) := by omega
  have q : atI (ns.map V.int) ((k.toNat : Nat) : Int) = some (.int ns[k.toNat]) := atI_nat (by rw [List.getElem?_map, List.getElem?_eq_getElem hk] <;> rfl)
  rw [← ek] at q
  exact ⟨ns[k.toNat], q⟩
/-- the pen: a list of the script's ints, the place, what is left -/
structure PenAt (H : Hp) (p c : Addr) (ns : List Int) (i j : Int) : Prop where
  at_ : H p = some (.lst [.ref c, .int i, .int j])
  cells : H c = some (.lst (ns.map V.int))
  low : 0 ≤ i
  high : i ≤ 1000000
/-- a draw: some number below many; of the heap only the pen is another one -/
def spDraw (lim : Int) : Sp := fun vs H Q _ => ∃ (p c : Addr) (ns : List Int) (i j m : Int), vs = [.ref p, .int m] ∧ PenAt H p c ns i j ∧ i < lim ∧ 0 < m ∧ m < 1073741824 ∧
  ∀ (r i' j' : Int), 0 ≤ r → r < m → i ≤ i' → i' ≤ i + 1 → Q (.int r) (upd H p (.lst [.ref c, .int i', .int j']))
abbrev nDraw : List Str := ["_law_pen_here", "_law_many", "_law_found", "_law_at", "_law_cell", "_law_number"]
theorem scDraw : FnScope nDraw ["_law_pen_here", "_law_many"] (defScope sDraw) := ⟨rfl, rfl, rfl, by decide +kernel, rfl, by decide +kernel, by decide +kernel⟩
theorem ok_draw {f : Addr} {fd : FuncData} (F : Fun K "_law_draw" "_law_draw" sDraw f fd) (T : Tb mg) : FnOk P w K mg base CX0 1 f fd ["_law_pen_here", "_law_many"] (spDraw 1000000) := by
  refine F.ok scDraw (fun vs H Q E h => ?_) (fun cdv A outer s H vs Q E hr h => ?_)
  · obtain ⟨p, c, ns, i, j, m, rfl, _⟩ := h
    rfl
  obtain ⟨p, c, ns, i, j, m, rfl, hp, hi, m0, m1, q⟩ := h
  refine ⟨_, pss_cons (ps_if (pt_cmpR op_gt (pe_ix ix_list (pv 0) pe_int (fun _ _ => rfl)) pe_int (nomark _))
      (pss_cons (ps_set (i := 2) scDraw.nd rfl (Or.inl rfl) (pe_op op_modB (pe_ix ix_list (pv 0) pe_int (fun _ _ => rfl)) (pv 1)))
      (pss_cons (ps_asg (pe_op op_fdivB (pe_ix ix_list (pv 0) pe_int (fun _ _ => rfl)) (pv 1)) (pg_sub (pv 0) pe_int set_list)) (pss_one (ps_ret (pv 2))))) pss_nil)
    (pss_cons (ps_set (i := 3) scDraw.nd rfl (Or.inl rfl) (pe_ix ix_list (pv 0) pe_int (fun _ _ => rfl)))
    (pss_cons (ps_asg (pe_op op_add (pv 3) pe_int) (pg_sub (pv 0) pe_int set_list))
    (pss_cons (ps_set (i := 4) scDraw.nd rfl (Or.inl rfl) pe_int)
    (pss_cons (ps_if (pt_cmpR op_gt (pe_callB call_len_seq rfl T.len PySem.boot_len (pa_cons (pe_ix ix_list (pv 0) pe_int (fun _ _ => rfl)) pa_nil)) pe_int (nomark _))
      (pss_one (ps_set (i := 4) scDraw.nd rfl (Or.inl rfl) (pe_ix ix_list (pe_ix ix_list (pv 0) pe_int (fun _ _ => rfl)) (pe_op op_modB (pv 3) (pe_callB call_len_seq rfl T.len PySem.boot_len (pa_cons (pe_ix ix_list (pv 0) pe_int (fun _ _ => rfl)) pa_nil))) (fun _ _ => rfl)))) pss_nil)
    (pss_cons (ps_if (PW.pt (pw_and (pt_cmpR op_lt (pv 3) (pe_callB call_len_seq rfl T.len PySem.boot_len (pa_cons (pe_ix ix_list (pv 0) pe_int (fun _ _ => rfl)) pa_nil)) (nomark _)) (pw_and1 (pt_cmpR op_ge (pv 4) (pe_op op_powB pe_int pe_int) (nomark _)))))
      (pss_cons (ps_asg (pe_op op_fdivB (pv 4) (pv 1)) (pg_sub (pv 0) pe_int set_list)) (pss_one (ps_ret (pe_op op_modB (pv 4) (pv 1))))) pss_nil)
    (pss_cons (ps_set (i := 5) scDraw.nd rfl (Or.inl rfl) (pe_op op_modB (pe_op op_mulB (pe_op op_add (pe_op op_modB (pv 4) pe_int) pe_int) (pe_op op_add (pe_op op_add (pe_op op_mulB (pv 3) (pv 3)) (pe_op op_mulB pe_int (pv 3))) pe_int)) pe_int))
    (pss_cons (ps_set (i := 5) scDraw.nd rfl (Or.inl rfl) (pe_op op_modB (pe_op op_mulB (pe_op op_modB (pe_op op_add (pe_op op_powB (pv 5) pe_int) (pe_op op_mulB pe_int (pv 3))) pe_int) pe_int) pe_int))
    (pss_cons (ps_if (pt_cmpR op_gt (pv 1) (pe_op op_powB pe_int pe_int) (nomark _))
      (pss_one (ps_set (i := 5) scDraw.nd rfl (Or.inl rfl) (pe_op op_add (pe_op op_mulB (pv 5) pe_int) (pe_op op_modB (pe_op op_mulB (pe_op op_modB (pv 5) pe_int) pe_int) pe_int)))) pss_nil)
    (pss_one (ps_ret (pe_op op_modB (pe_op op_fdivB (pv 5) pe_int) (pv 1)))))))))))), ?_⟩
  obtain ⟨hat, hcells, i0, i1⟩ := hp
  have npc : c ≠ p := by
    intro e
    subst e
    rw [hcells] at hat
    have hh := HO.lst.inj (Option.some.inj hat)
    cases ns with
    | nil => cases hh
    | cons n r => cases hh
  have sq : SqL K H p [.ref c, .int i, .int j] := SqL.of hat
  refine ⟨_, rfl, p, _, _, _, rfl, rfl, sq, rfl, _, _, rfl, rfl, _, rfl, ?_⟩
  refine ite2 (fun cj => ?_) (fun _ => ?_)
  · refine ⟨_, rfl, p, _, _, _, rfl, rfl, sq, rfl, _, rfl, _, _, rfl, rfl, m0, fun r hr0 => ?_⟩
    refine ⟨_, rfl, p, _, _, _, rfl, rfl, sq, rfl, _, rfl, _, _, rfl, rfl, ⟨m0, m1⟩, fun j' _ => ?_⟩
    refine ⟨_, rfl, p, _, _, 2, rfl, rfl, hat, rfl, _, rfl, ?_⟩
    exact q r i j' hr0.1 hr0.2 (Int.le_refl _) (by omega)
  · refine ⟨_, rfl, p, _, _, _, rfl, rfl, sq, rfl, ?_⟩
    refine ⟨_, rfl, _, _, rfl, rfl, _, rfl, p, _, _, 1, rfl, rfl, hat, rfl, ?_⟩
    generalize hH1 : upd H p (.lst (List.set [V.ref c, V.int i, V.int j] 1 (V.int (i + 1)))) = H1
    have a1 : H1 p = some (.lst [.ref c, .int (i + 1), .int j]) := by rw [← hH1]; exact upd_same
    have c1 : H1 c = some (.lst (ns.map V.int)) := by rw [← hH1, upd_ne npc]; exact hcells
    have sq1 : SqL K H1 p [.ref c, .int (i + 1), .int j] := SqL.of a1
    have sc1 : SqL K H1 c (ns.map V.int) := SqL.of c1
    have back : ∀ j', upd H1 p (.lst [.ref c, .int (i + 1), .int j']) = upd H p (.lst [.ref c, .int (i + 1), .int j']) := fun j' => by rw [← hH1, upd_upd]
    have keep : H1 = upd H p (.lst [.ref c, .int (i + 1), .int j]) := by rw [← hH1]; rfl
    have low : ∀ {x : Int}, 0 ≤ x ∧ x < 2147483648 → -(2 ^ 64) < x ∧ x < 2 ^ 64 := fun h => ⟨by omega, by omega⟩
    have hl : (((ns.map V.int).length : Nat) : Int) = (ns.length : Int) := by rw [List.length_map]
    refine ⟨_, rfl, p, _, _, _, rfl, rfl, sq1, rfl, c, _, rfl, .inl sc1, _, _, rfl, rfl, _, rfl, ?_⟩
    refine ite2 (fun hc => ?_) (fun _ => ?_)
    · have hc' : (0 : Int) < (((ns.map V.int).length : Nat) : Int) := of_decide_eq_true hc
      refine ⟨_, rfl, p, _, _, _, rfl, rfl, sq1, rfl, _, rfl, _, rfl, p, _, _, _, rfl, rfl, sq1, rfl, c, _, rfl, .inl sc1, _, _, rfl, rfl, hc', fun r0 hr0 => ?_⟩
      obtain ⟨v, hv⟩ := at_int (ns := ns) hr0.1 (by rw [← hl]; exact hr0.2)
      refine ⟨c, _, _, _, rfl, rfl, sc1, hv, ?_⟩
      generalize v = cell
      refine ⟨_, rfl, _, rfl, p, _, _, _, rfl, rfl, sq1, rfl, c, _, rfl, .inl sc1, _, _, rfl, rfl, _, rfl, ?_⟩
      refine ite2 (fun _ => ?_) (fun _ => iteF ?_)
      · refine ⟨_, rfl, _, _, rfl, rfl, ⟨by decide, by decide, by decide⟩, fun big _ => ⟨_, _, rfl, rfl, _, rfl, ?_⟩⟩
        refine ite2 (fun _ => ?_) (fun _ => ?_)
        · refine ⟨_, rfl, _, rfl, _, _, rfl, rfl, ⟨m0, m1⟩, fun j' _ => ?_⟩
          refine ⟨_, rfl, p, _, _, 2, rfl, rfl, a1, rfl, _, rfl, _, rfl, _, _, rfl, rfl, m0, fun r hr1 => ?_⟩
          show Q _ (upd H1 p (.lst [.ref c, .int (i + 1), .int j']))
          rw [back]
          exact q r (i + 1) j' hr1.1 hr1.2 (by omega) (by omega)
        · refine ⟨_, rfl, _, _, rfl, rfl, (by show (0 : Int) < 2147483629; decide), fun n1 h1 => ⟨_, _, rfl, rfl, _, rfl, _, rfl, _, _, rfl, rfl, .inl ⟨by omega, by omega⟩, fun n2 _ => ⟨_, rfl, _, _, rfl, rfl, .inl ⟨by decide, by decide⟩, fun n3 _ => ⟨_, _, rfl, rfl, _, _, rfl, rfl, _, _, rfl, rfl, .inl ⟨by omega, by omega⟩, fun n4 _ => ⟨_, _, rfl, rfl, (by show (0 : Int) < 2147483647; decide), fun n5 h5 => ?_⟩⟩⟩⟩⟩
          refine ⟨_, rfl, _, _, rfl, rfl, ⟨by decide, by decide, by omega⟩, fun n6 _ => ⟨_, rfl, _, _, rfl, rfl, .inl ⟨by decide, by decide⟩, fun n7 _ => ⟨_, _, rfl, rfl, _, _, rfl, rfl, (by show (0 : Int) < 2147483587; decide), fun n8 h8 => ⟨_, _, rfl, rfl, .inl ⟨by omega, by omega⟩, fun n9 _ => ⟨_, _, rfl, rfl, (by show (0 : Int) < 2147483399; decide), fun n10 h10 => ?_⟩⟩⟩⟩⟩
          refine ⟨_, rfl, _, _, rfl, rfl, ⟨by decide, by decide, by decide⟩, fun n11 _ => ⟨_, _, rfl, rfl, _, rfl, ?_⟩⟩
          refine ite2 (fun _ => ?_) (fun _ => ?_)
          · refine ⟨_, rfl, _, _, rfl, rfl, .inl ⟨by omega, by omega⟩, fun n12 _ => ⟨_, rfl, _, _, rfl, rfl, (by show (0 : Int) < 1000003; decide), fun n13 h13 => ⟨_, _, rfl, rfl, .inl ⟨by omega, by omega⟩, fun n14 _ => ⟨_, _, rfl, rfl, (by show (0 : Int) < 2147483587; decide), fun n15 _ => ⟨_, _, rfl, rfl, ?_⟩⟩⟩⟩⟩
            refine ⟨_, rfl, _, _, rfl, rfl, ⟨by decide, by decide⟩, fun n16 _ => ⟨_, rfl, _, _, rfl, rfl, m0, fun r hr1 => ?_⟩⟩
            show Q _ H1
            rw [keep]
            exact q r (i + 1) j hr1.1 hr1.2 (by omega) (by omega)
          · refine ⟨_, rfl, _, _, rfl, rfl, ⟨by decide, by decide⟩, fun n16 _ => ⟨_, rfl, _, _, rfl, rfl, m0, fun r hr1 => ?_⟩⟩
            show Q _ H1
            rw [keep]
            exact q r (i + 1) j hr1.1 hr1.2 (by omega) (by omega)
      · refine ⟨_, rfl, _, _, rfl, rfl, (by show (0 : Int) < 2147483629; decide), fun n1 h1 => ⟨_, _, rfl, rfl, _, rfl, _, rfl, _, _, rfl, rfl, .inl ⟨by omega, by omega⟩, fun n2 _ => ⟨_, rfl, _, _, rfl, rfl, .inl ⟨by decide, by decide⟩, fun n3 _ => ⟨_, _, rfl, rfl, _, _, rfl, rfl, _, _, rfl, rfl, .inl ⟨by omega, by omega⟩, fun n4 _ => ⟨_, _, rfl, rfl, (by show (0 : Int) < 2147483647; decide), fun n5 h5 => ?_⟩⟩⟩⟩⟩
        refine ⟨_, rfl, _, _, rfl, rfl, ⟨by decide, by decide, by omega⟩, fun n6 _ => ⟨_, rfl, _, _, rfl, rfl, .inl ⟨by decide, by decide⟩, fun n7 _ => ⟨_, _, rfl, rfl, _, _, rfl, rfl, (by show (0 : Int) < 2147483587; decide), fun n8 h8 => ⟨_, _, rfl, rfl, .inl ⟨by omega, by omega⟩, fun n9 _ => ⟨_, _, rfl, rfl, (by show (0 : Int) < 2147483399; decide), fun n10 h10 => ?_⟩⟩⟩⟩⟩
        refine ⟨_, rfl, _, _, rfl, rfl, ⟨by decide, by decide, by decide⟩, fun n11 _ => ⟨_, _, rfl, rfl, _, rfl, ?_⟩⟩
        refine ite2 (fun _ => ?_) (fun _ => ?_)
        · refine ⟨_, rfl, _, _, rfl, rfl, .inl ⟨by omega, by omega⟩, fun n12 _ => ⟨_, rfl, _, _, rfl, rfl, (by show (0 : Int) < 1000003; decide), fun n13 h13 => ⟨_, _, rfl, rfl, .inl ⟨by omega, by omega⟩, fun n14 _ => ⟨_, _, rfl, rfl, (by show (0 : Int) < 2147483587; decide), fun n15 _ => ⟨_, _, rfl, rfl, ?_⟩⟩⟩⟩⟩
          refine ⟨_, rfl, _, _, rfl, rfl, ⟨by decide, by decide⟩, fun n16 _ => ⟨_, rfl, _, _, rfl, rfl, m0, fun r hr1 => ?_⟩⟩
          show Q _ H1
          rw [keep]
          exact q r (i + 1) j hr1.1 hr1.2 (by omega) (by omega)
        · refine ⟨_, rfl, _, _, rfl, rfl, ⟨by decide, by decide⟩, fun n16 _ => ⟨_, rfl, _, _, rfl, rfl, m0, fun r hr1 => ?_⟩⟩
          show Q _ H1
          rw [keep]
          exact q r (i + 1) j hr1.1 hr1.2 (by omega) (by omega)
    · generalize (7 : Int) = cell
      refine ⟨_, rfl, _, rfl, p, _, _, _, rfl, rfl, sq1, rfl, c, _, rfl, .inl sc1, _, _, rfl, rfl, _, rfl, ?_⟩
      refine ite2 (fun _ => ?_) (fun _ => iteF ?_)
      · refine ⟨_, rfl, _, _, rfl, rfl, ⟨by decide, by decide, by decide⟩, fun big _ => ⟨_, _, rfl, rfl, _, rfl, ?_⟩⟩
        refine ite2 (fun _ => ?_) (fun _ => ?_)
        · refine ⟨_, rfl, _, rfl, _, _, rfl, rfl, ⟨m0, m1⟩, fun j' _ => ?_⟩
          refine ⟨_, rfl, p, _, _, 2, rfl, rfl, a1, rfl, _, rfl, _, rfl, _, _, rfl, rfl, m0, fun r hr1 => ?_⟩
          show Q _ (upd H1 p (.lst [.ref c, .int (i + 1), .int j']))
          rw [back]
          exact q r (i + 1) j' hr1.1 hr1.2 (by omega) (by omega)
        · refine ⟨_, rfl, _, _, rfl, rfl, (by show (0 : Int) < 2147483629; decide), fun n1 h1 => ⟨_, _, rfl, rfl, _, rfl, _, rfl, _, _, rfl, rfl, .inl ⟨by omega, by omega⟩, fun n2 _ => ⟨_, rfl, _, _, rfl, rfl, .inl ⟨by decide, by decide⟩, fun n3 _ => ⟨_, _, rfl, rfl, _, _, rfl, rfl, _, _, rfl, rfl, .inl ⟨by omega, by omega⟩, fun n4 _ => ⟨_, _, rfl, rfl, (by show (0 : Int) < 2147483647; decide), fun n5 h5 => ?_⟩⟩⟩⟩⟩
          refine ⟨_, rfl, _, _, rfl, rfl, ⟨by decide, by decide, by omega⟩, fun n6 _ => ⟨_, rfl, _, _, rfl, rfl, .inl ⟨by decide, by decide⟩, fun n7 _ => ⟨_, _, rfl, rfl, _, _, rfl, rfl, (by show (0 : Int) < 2147483587; decide), fun n8 h8 => ⟨_, _, rfl, rfl, .inl ⟨by omega, by omega⟩, fun n9 _ => ⟨_, _, rfl, rfl, (by show (0 : Int) < 2147483399; decide), fun n10 h10 => ?_⟩⟩⟩⟩⟩
          refine ⟨_, rfl, _, _, rfl, rfl, ⟨by decide, by decide, by decide⟩, fun n11 _ => ⟨_, _, rfl, rfl, _, rfl, ?_⟩⟩
          refine ite2 (fun _ => ?_) (fun _ => ?_)
          · refine ⟨_, rfl, _, _, rfl, rfl, .inl ⟨by omega, by omega⟩, fun n12 _ => ⟨_, rfl, _, _, rfl, rfl, (by show (0 : Int) < 1000003; decide), fun n13 h13 => ⟨_, _, rfl, rfl, .inl ⟨by omega, by omega⟩, fun n14 _ => ⟨_, _, rfl, rfl, (by show (0 : Int) < 2147483587; decide), fun n15 _ => ⟨_, _, rfl, rfl, ?_⟩⟩⟩⟩⟩
            refine ⟨_, rfl, _, _, rfl, rfl, ⟨by decide, by decide⟩, fun n16 _ => ⟨_, rfl, _, _, rfl, rfl, m0, fun r hr1 => ?_⟩⟩
            show Q _ H1
            rw [keep]
            exact q r (i + 1) j hr1.1 hr1.2 (by omega) (by omega)
          · refine ⟨_, rfl, _, _, rfl, rfl, ⟨by decide, by decide⟩, fun n16 _ => ⟨_, rfl, _, _, rfl, rfl, m0, fun r hr1 => ?_⟩⟩
            show Q _ H1
            rw [keep]
            exact q r (i + 1) j hr1.1 hr1.2 (by omega) (by omega)
      · refine ⟨_, rfl, _, _, rfl, rfl, (by show (0 : Int) < 2147483629; decide), fun n1 h1 => ⟨_, _, rfl, rfl, _, rfl, _, rfl, _, _, rfl, rfl, .inl ⟨by omega, by omega⟩, fun n2 _ => ⟨_, rfl, _, _, rfl, rfl, .inl ⟨by decide, by decide⟩, fun n3 _ => ⟨_, _, rfl, rfl, _, _, rfl, rfl, _, _, rfl, rfl, .inl ⟨by omega, by omega⟩, fun n4 _ => ⟨_, _, rfl, rfl, (by show (0 : Int) < 2147483647; decide), fun n5 h5 => ?_⟩⟩⟩⟩⟩
        refine ⟨_, rfl, _, _, rfl, rfl, ⟨by decide, by decide, by omega⟩, fun n6 _ => ⟨_, rfl, _, _, rfl, rfl, .inl ⟨by decide, by decide⟩, fun n7 _ => ⟨_, _, rfl, rfl, _, _, rfl, rfl, (by show (0 : Int) < 2147483587; decide), fun n8 h8 => ⟨_, _, rfl, rfl, .inl ⟨by omega, by omega⟩, fun n9 _ => ⟨_, _, rfl, rfl, (by show (0 : Int) < 2147483399; decide), fun n10 h10 => ?_⟩⟩⟩⟩⟩
        refine ⟨_, rfl, _, _, rfl, rfl, ⟨by decide, by decide, by decide⟩, fun n11 _ => ⟨_, _, rfl, rfl, _, rfl, ?_⟩⟩
        refine ite2 (fun _ => ?_) (fun _ => ?_)
        · refine ⟨_, rfl, _, _, rfl, rfl, .inl ⟨by omega, by omega⟩, fun n12 _ => ⟨_, rfl, _, _, rfl, rfl, (by show (0 : Int) < 1000003; decide), fun n13 h13 => ⟨_, _, rfl, rfl, .inl ⟨by omega, by omega⟩, fun n14 _ => ⟨_, _, rfl, rfl, (by show (0 : Int) < 2147483587; decide), fun n15 _ => ⟨_, _, rfl, rfl, ?_⟩⟩⟩⟩⟩
          refine ⟨_, rfl, _, _, rfl, rfl, ⟨by decide, by decide⟩, fun n16 _ => ⟨_, rfl, _, _, rfl, rfl, m0, fun r hr1 => ?_⟩⟩
          show Q _ H1
          rw [keep]
          exact q r (i + 1) j hr1.1 hr1.2 (by omega) (by omega)
        · refine ⟨_, rfl, _, _, rfl, rfl, ⟨by decide, by decide⟩, fun n16 _ => ⟨_, rfl, _, _, rfl, rfl, m0, fun r hr1 => ?_⟩⟩
          show Q _ H1
          rw [keep]
          exact q r (i + 1) j hr1.1 hr1.2 (by omega) (by omega)
end
end Mk
namespace L2
open PySem PySem.Spec PyProof.Rows
/-! ### expressions that make data, all of it new -/
theorem same_nw {H : Hp} {p : Addr} (h : H p = none) (o : HO) : Same H (upd H p o) := fun b u q => by rw [upd_ne (ne_of_none q h)]; exact q
theorem none_of {H H' : Hp} (s : Same H H') {a : Addr} (h : H' a = none) : H a = none := by
  cases e : H a with
  | none => rfl
  | some o => rw [s _ _ e] at h; cases h
section
variable {K : PySem.W.Frag} {σ : L2.St} {H0 : Hp}
theorem dqAll_len {H : Hp} : ∀ {vs : List V} {ds : List PyData}, DqAll K H vs ds → vs.length = ds.length
  | _, _, .nil => rfl
  | _, _, .cons _ t => congrArg (· + 1) (dqAll_len t)
end
end L2
namespace Mk
open PySem L2 PyProof.Rows
theorem cut_ints (ns : List Int) (lo hi : Option Int) : ∃ ms : List Int, cutV (ns.map V.int) lo hi = ms.map V.int := by
  unfold cutV
  exact ⟨_, by rw [← List.map_drop, ← List.map_take]⟩
section
variable {P : Program} {w : World} {K : PySem.W.Frag} {mg : Str → Option Value} {base : Heap}
def spPen (K : PySem.W.Frag) : Sp := fun vs H Q _ => ∃ (a : Addr) (ns : List Int), vs = [.ref a] ∧ SqL K H a (ns.map V.int) ∧ ∀ (p c : Addr) (ms : List Int) (H' : Hp), Same H H' → PenAt H' p c ms 0 0 → Q (.ref p) H'
theorem scPen : FnScope ["_law_script"] ["_law_script"] (defScope sPen) := ⟨rfl, rfl, rfl, by decide +kernel, rfl, by decide +kernel, by decide +kernel⟩
theorem ok_pen {f : Addr} {fd : FuncData} (F : Fun K "_law_pen" "_law_pen" sPen f fd) (T : Tb mg) : FnOk P w K mg base CX0 1 f fd ["_law_script"] (spPen K) := by
  refine F.ok scPen (fun vs H Q E h => ?_) (fun cdv A outer s H vs Q E hr h => ?_)
  · obtain ⟨a, ns, rfl, _⟩ := h
    rfl
  obtain ⟨a, ns, rfl, hS, q⟩ := h
  refine ⟨_, pss_one (ps_ret (pe_lst (pa_cons (pe_callTy call_list_of rfl T.list bt_list (pa_cons (pe_slice sl_list (pv 0) po_none (po_some pe_int)) pa_nil)) (pa_cons pe_int (pa_cons pe_int pa_nil))))), ?_⟩
  obtain ⟨ms, hms⟩ := cut_ints ns none (some 63)
  refine ⟨_, rfl, _, rfl, a, _, rfl, hS, fun p1 h1 => ⟨p1, _, rfl, .inl (SqL.of upd_same), fun c hc => ⟨by show 3 ≤ sizeLine; decide, fun p hp => ?_⟩⟩⟩
  refine q p c ms _ ((same_nw h1 _).trans ((same_nw hc _).trans (same_nw hp _))) ⟨upd_same, ?_, Int.le_refl 0, by decide⟩
  rw [same_nw hp _ c _ upd_same, hms]
end
end Mk
namespace Mk
open PySem L2 PyProof.Rows
/-- the module's numbers -/
structure Tc (mg : Str → Option Value) : Prop where
  deep : ∃ u, mg "DEEPEST" = some u ∧ RelV (.int 65535) u
  weight : ∃ u, mg "GREATEST_WEIGHT" = some u ∧ RelV (.int 1000) u
  by_ : ∃ u, mg "GREATEST_BY" = some u ∧ RelV (.int 100000) u
  places : ∃ u, mg "MOST_PLACES" = some u ∧ RelV (.int 25) u
  widest : ∃ u, mg "WIDEST" = some u ∧ RelV (.int 3000) u
abbrev sWhole : Stmt := top 14
abbrev sBetween : Stmt := top 15
abbrev sTuple : Stmt := top 16
abbrev sDepth : Stmt := top 17
abbrev sWeights : Stmt := top 18
abbrev sBy : Stmt := top 19
abbrev sPlus : Stmt := top 20
section
variable {P : Program} {w : World} {K : PySem.W.Frag} {mg : Str → Option Value} {base : Heap}
theorem scWhole : FnScope ["thing"] ["thing"] (defScope sWhole) := ⟨rfl, rfl, rfl, by decide +kernel, rfl, by decide +kernel, by decide +kernel⟩
/-- whether it is a whole number -/
def spWhole (K : PySem.W.Frag) : Sp := fun vs H Q _ => ∃ (x : V) (k : Ki), vs = [x] ∧ KiV K H x k ∧ Q (.bl (isK k .int && !isK k .bl)) H
theorem ok_whole {f : Addr} {fd : FuncData} (F : Fun K "is_whole" "is_whole" sWhole f fd) (T : Tb mg) : FnOk P w K mg base CX0 1 f fd ["thing"] (spWhole K) := by
  refine F.ok scWhole (fun vs H Q E h => ?_) (fun cdv A outer s H vs Q E hr h => ?_)
  · obtain ⟨x, k, rfl, _⟩ := h
    rfl
  obtain ⟨x, k, rfl, hk, q⟩ := h
  refine ⟨_, pss_one (ps_ret (pe_and (pe_isi .int (pv 0) rfl T.isi rfl T.int bt_int) (pe_one (pe_not (pe_isi .bl (pv 0) rfl T.isi rfl T.bool bt_bool))))), ?_⟩
  refine ⟨_, rfl, _, k, rfl, hk, _, rfl, ite2 (fun h1 => ⟨_, rfl, _, k, rfl, hk, _, rfl, ?_⟩) (fun h1 => ?_)⟩
  · rw [h1] at q; exact q
  · rw [Bool.eq_false_iff.mpr h1] at q; exact q
theorem scBetween : FnScope ["thing", "low", "high"] ["thing", "low", "high"] (defScope sBetween) := ⟨rfl, rfl, rfl, by decide +kernel, rfl, by decide +kernel, by decide +kernel⟩
theorem scTuple : FnScope ["thing", "least", "most"] ["thing", "least", "most"] (defScope sTuple) := ⟨rfl, rfl, rfl, by decide +kernel, rfl, by decide +kernel, by decide +kernel⟩
theorem scDepth : FnScope ["thing"] ["thing"] (defScope sDepth) := ⟨rfl, rfl, rfl, by decide +kernel, rfl, by decide +kernel, by decide +kernel⟩
end
/-- a whole number within bounds, of whatever -/
def inB : V → Int → Int → Bool
  | .int i, lo, hi => decide (lo ≤ i) && decide (i ≤ hi)
  | _, _, _ => false
theorem kint {K : PySem.W.Frag} {H : Hp} {x : V} {k : Ki} (h : KiV K H x k) (e : (isK k .int && !isK k .bl) = true) : ∃ i, x = .int i := by
  cases k <;> first | (exact absurd e (by decide)) | skip
  cases x with
  | int i => exact ⟨i, rfl⟩
  | non => cases h
  | bl b => cases h
  | str s => cases h
  | ref a => rcases h with ⟨z, _⟩ | ⟨z, _⟩ | ⟨z, _⟩ <;> cases z
  | _ => first | cases h | (simp [KiV] at h)
theorem knot {K : PySem.W.Frag} {H : Hp} {x : V} {k : Ki} (h : KiV K H x k) (e : (isK k .int && !isK k .bl) = false) {lo hi : Int} : inB x lo hi = false := by
  cases x with
  | int i =>
    have z : k = .int := h
    subst z
    exact absurd e (by decide)
  | _ => rfl
section
variable {P : Program} {w : World} {K : PySem.W.Frag} {mg : Str → Option Value} {base : Heap}
def spBetG (K : PySem.W.Frag) : Sp := fun vs H Q _ => ∃ (x : V) (k : Ki) (lo hi : Int), vs = [x, .int lo, .int hi] ∧ KiV K H x k ∧ Q (.bl (inB x lo hi)) H
theorem ok_betG {f g : Addr} {fd gd : FuncData} (F : Fun K "is_between" "is_between" sBetween f fd) (G : FnOk P w K mg base CX0 1 g gd ["thing"] (spWhole K)) (bG : Binds K gd ["thing"] []) (kG : PySem.W.keepIn K (.ref g) = true) (mG : mg "is_whole" = some (.ref g)) : FnOk P w K mg base CX0 2 f fd ["thing", "low", "high"] (spBetG K) := by
  refine F.ok scBetween (fun vs H Q E h => ?_) (fun cdv A outer s H vs Q E hr h => ?_)
  · obtain ⟨x, k, lo, hi, rfl, _⟩ := h
    rfl
  obtain ⟨x, k, lo, hi, rfl, hk, q⟩ := h
  refine ⟨_, pss_one (ps_ret (pe_and (pe_call G hr rfl mG kG bG .nil pass0 (pa_cons (pv 0) pa_nil)) (pe_one (pe_chain op_le op_le (pv 1) (pv 0) (pv 2))))), ?_⟩
  refine ⟨_, rfl, _, k, rfl, hk, _, rfl, ite2 (fun h1 => ?_) (fun h1 => ?_)⟩
  · obtain ⟨i, rfl⟩ := kint hk h1
    refine ⟨_, rfl, _, rfl, _, _, rfl, rfl, _, rfl, ite2 (fun h2 => ⟨_, rfl, _, _, rfl, rfl, ?_⟩) (fun h2 => ?_)⟩
    · have z : inB (.int i) lo hi = decide (i ≤ hi) := by show (decide (lo ≤ i) && decide (i ≤ hi)) = _; rw [h2, Bool.true_and]
      rw [z] at q; exact q
    · have z : inB (.int i) lo hi = false := by show (decide (lo ≤ i) && decide (i ≤ hi)) = _; rw [Bool.eq_false_iff.mpr h2, Bool.false_and]
      rw [z] at q
      exact q
  · have h1 := Bool.eq_false_iff.mpr h1
    rw [knot hk h1] at q
    exact q
end
def itemsD : PyData → List PyData
  | .tuple ds => ds
  | _ => []
def isTupD (d : PyData) (lo hi : Int) : Bool := match d with
  | .tuple ds => decide (lo ≤ (ds.length : Int)) && decide ((ds.length : Int) ≤ hi)
  | _ => false
def inD (d : PyData) (lo hi : Int) : Bool := match d with
  | .int i => decide (lo ≤ i) && decide (i ≤ hi)
  | _ => false
theorem isTupD_ex {d : PyData} {lo hi : Int} (h : isTupD d lo hi = true) : ∃ ds, d = .tuple ds ∧ lo ≤ (ds.length : Int) ∧ (ds.length : Int) ≤ hi := by
  cases d with
  | tuple ds =>
    have z : (decide (lo ≤ (ds.length : Int)) && decide ((ds.length : Int) ≤ hi)) = true := h
    rw [Bool.and_eq_true, decide_eq_true_iff, decide_eq_true_iff] at z
    exact ⟨ds, rfl, z.1, z.2⟩
  | _ => cases h
theorem inD_ex {d : PyData} {lo hi : Int} (h : inD d lo hi = true) : ∃ i, d = .int i ∧ lo ≤ i ∧ i ≤ hi := by
  cases d with
  | int i =>
    have z : (decide (lo ≤ i) && decide (i ≤ hi)) = true := h
    rw [Bool.and_eq_true, decide_eq_true_iff, decide_eq_true_iff] at z
    exact ⟨i, rfl, z.1, z.2⟩
  | _ => cases h
section
variable {K : PySem.W.Frag} {H : Hp}
theorem Dq.inB {v : V} {d : PyData} {lo hi : Int} (h : Dq K H v d) : inB v lo hi = inD d lo hi := by cases h <;> rfl
/-- the kind of data -/
theorem Dq.ki {v : V} {d : PyData} (h : Dq K H v d) : ∃ k, KiV K H v k ∧ ((isK k .tup = true ∧ ∃ a xs ds, v = .ref a ∧ d = .tuple ds ∧ SqT K H a xs ∧ xs.length ≤ 10000 ∧ DqAll K H xs ds) ∨ (isK k .tup = false ∧ ∀ lo hi, isTupD d lo hi = false ∧ itemsD d = [])) := by
  cases h with
  | non => exact ⟨.non, rfl, .inr ⟨rfl, fun _ _ => ⟨rfl, rfl⟩⟩⟩
  | bl b => exact ⟨.bl, rfl, .inr ⟨rfl, fun _ _ => ⟨rfl, rfl⟩⟩⟩
  | int i => exact ⟨.int, rfl, .inr ⟨rfl, fun _ _ => ⟨rfl, rfl⟩⟩⟩
  | str x => exact ⟨.str, rfl, .inr ⟨rfl, fun _ _ => ⟨rfl, rfl⟩⟩⟩
  | lst hs n ha => exact ⟨.lst, .inl ⟨rfl, _, hs⟩, .inr ⟨rfl, fun _ _ => ⟨rfl, rfl⟩⟩⟩
  | tup hs n ha => exact ⟨.tup, .inr (.inl ⟨rfl, _, hs⟩), .inl ⟨rfl, _, _, _, rfl, rfl, hs, n, ha⟩⟩
  | dct hs ha => exact ⟨.dct, .inr (.inr ⟨rfl, _, hs⟩), .inr ⟨rfl, fun _ _ => ⟨rfl, rfl⟩⟩⟩
theorem dqAll_pair : ∀ {vs : List V} {ds : List PyData}, DqAll K H vs ds → Paired (Dq K H) vs ds
  | _, _, .nil => .nil
  | _, _, .cons h t => .cons h (dqAll_pair t)
end
section
variable {P : Program} {w : World} {K : PySem.W.Frag} {mg : Str → Option Value} {base : Heap}
def spTupG (K : PySem.W.Frag) : Sp := fun vs H Q _ => ∃ (v : V) (d : PyData) (lo hi : Int), vs = [v, .int lo, .int hi] ∧ Dq K H v d ∧ Q (.bl (isTupD d lo hi)) H
theorem ok_tupG {f : Addr} {fd : FuncData} (F : Fun K "is_tuple" "is_tuple" sTuple f fd) (T : Tb mg) : FnOk P w K mg base CX0 1 f fd ["thing", "least", "most"] (spTupG K) := by
  refine F.ok scTuple (fun vs H Q E h => ?_) (fun cdv A outer s H vs Q E hr h => ?_)
  · obtain ⟨v, d, lo, hi, rfl, _⟩ := h
    rfl
  obtain ⟨v, d, lo, hi, rfl, hd, q⟩ := h
  obtain ⟨k, hk, hc⟩ := Dq.ki hd
  refine ⟨_, pss_one (ps_ret (pe_and (pe_isi .tup (pv 0) rfl T.isi rfl T.tuple bt_tuple) (pe_one (pe_chain op_le op_le (pv 1) (pe_callB call_len_seq rfl T.len PySem.boot_len (pa_cons (pv 0) pa_nil)) (pv 2))))), ?_⟩
  rcases hc with ⟨e, a, xs, ds, rfl, rfl, hs, hn, ha⟩ | ⟨e, no⟩
  · have l := dqAll_len ha
    refine ⟨_, rfl, _, k, rfl, hk, _, rfl, iteB e ⟨_, rfl, _, rfl, a, xs, rfl, .inr hs, _, _, rfl, rfl, _, rfl, ite2 (fun c => ⟨_, rfl, _, _, rfl, rfl, ?_⟩) (fun c => ?_)⟩⟩
    · rw [l] at c
      have z : isTupD (.tuple ds) lo hi = decide ((ds.length : Int) ≤ hi) := by show (decide _ && decide _) = _; rw [c, Bool.true_and]
      rw [z, ← l] at q
      exact q
    · rw [l] at c
      have z : isTupD (.tuple ds) lo hi = false := by show (decide _ && decide _) = _; rw [Bool.eq_false_iff.mpr c, Bool.false_and]
      rw [z] at q
      exact q
  · refine ⟨_, rfl, _, k, rfl, hk, _, rfl, iteC e ?_⟩
    rw [(no lo hi).1] at q
    exact q
def spInG (K : PySem.W.Frag) (lo hi : Int) : Sp := fun vs H Q _ => ∃ (x : V) (k : Ki), vs = [x] ∧ KiV K H x k ∧ Q (.bl (inB x lo hi)) H
theorem ok_depthG {f g : Addr} {fd gd : FuncData} (F : Fun K "is_depth" "is_depth" sDepth f fd) (C : Tc mg) (G : FnOk P w K mg base CX0 2 g gd ["thing", "low", "high"] (spBetG K)) (bG : Binds K gd ["thing", "low", "high"] []) (kG : PySem.W.keepIn K (.ref g) = true) (mG : mg "is_between" = some (.ref g)) : FnOk P w K mg base CX0 3 f fd ["thing"] (spInG K 1 65535) := by
  refine F.ok scDepth (fun vs H Q E h => ?_) (fun cdv A outer s H vs Q E hr h => ?_)
  · obtain ⟨x, k, rfl, _⟩ := h
    rfl
  obtain ⟨x, k, rfl, hk, q⟩ := h
  obtain ⟨u, hu, ru⟩ := C.deep
  refine ⟨_, pss_one (ps_ret (pe_call G hr rfl mG kG bG .nil pass0 (pa_cons (pv 0) (pa_cons pe_int (pa_cons (pe_glob rfl hu ru) pa_nil))))), ?_⟩
  exact ⟨_, rfl, x, k, 1, 65535, rfl, hk, q⟩
end
end Mk
namespace Mk
open PySem L2 PyProof.Rows
section
variable {P : Program} {w : World} {K : PySem.W.Frag} {mg : Str → Option Value} {base : Heap}
theorem scBy : FnScope ["thing"] ["thing"] (defScope sBy) := ⟨rfl, rfl, rfl, by decide +kernel, rfl, by decide +kernel, by decide +kernel⟩
theorem scPlus : FnScope ["thing"] ["thing"] (defScope sPlus) := ⟨rfl, rfl, rfl, by decide +kernel, rfl, by decide +kernel, by decide +kernel⟩
theorem ok_byG {f g : Addr} {fd gd : FuncData} (F : Fun K "is_by" "is_by" sBy f fd) (C : Tc mg) (G : FnOk P w K mg base CX0 2 g gd ["thing", "low", "high"] (spBetG K)) (bG : Binds K gd ["thing", "low", "high"] []) (kG : PySem.W.keepIn K (.ref g) = true) (mG : mg "is_between" = some (.ref g)) : FnOk P w K mg base CX0 3 f fd ["thing"] (spInG K 0 100000) := by
  refine F.ok scBy (fun vs H Q E h => ?_) (fun cdv A outer s H vs Q E hr h => ?_)
  · obtain ⟨x, k, rfl, _⟩ := h
    rfl
  obtain ⟨x, k, rfl, hk, q⟩ := h
  obtain ⟨u, hu, ru⟩ := C.by_
  refine ⟨_, pss_one (ps_ret (pe_call G hr rfl mG kG bG .nil pass0 (pa_cons (pv 0) (pa_cons pe_int (pa_cons (pe_glob rfl hu ru) pa_nil))))), ?_⟩
  exact ⟨_, rfl, x, k, 0, 100000, rfl, hk, q⟩
theorem ok_plusG {f g : Addr} {fd gd : FuncData} (F : Fun K "is_plus" "is_plus" sPlus f fd) (C : Tc mg) (G : FnOk P w K mg base CX0 2 g gd ["thing", "low", "high"] (spBetG K)) (bG : Binds K gd ["thing", "low", "high"] []) (kG : PySem.W.keepIn K (.ref g) = true) (mG : mg "is_between" = some (.ref g)) : FnOk P w K mg base CX0 3 f fd ["thing"] (spInG K (-65535) 65535) := by
  refine F.ok scPlus (fun vs H Q E h => ?_) (fun cdv A outer s H vs Q E hr h => ?_)
  · obtain ⟨x, k, rfl, _⟩ := h
    rfl
  obtain ⟨x, k, rfl, hk, q⟩ := h
  obtain ⟨u, hu, ru⟩ := C.deep
  refine ⟨_, pss_one (ps_ret (pe_call G hr rfl mG kG bG .nil pass0 (pa_cons (pv 0) (pa_cons (pe_un un_neg (pe_glob rfl hu ru)) (pa_cons (pe_glob rfl hu ru) pa_nil))))), ?_⟩
  exact ⟨_, rfl, _, rfl, x, k, -65535, 65535, rfl, hk, q⟩
/-- weights: a tuple of 1 to most numbers within greatest -/
def weightsD (d : PyData) (most great : Int) : Bool := isTupD d 1 most && (itemsD d).all (inD · (-great) great)
abbrev nWts : List Str := ["thing", "most", "greatest", "weight"]
theorem scWts : FnScope nWts ["thing", "most", "greatest"] (defScope sWeights) := ⟨rfl, rfl, rfl, by decide +kernel, rfl, by decide +kernel, by decide +kernel⟩
theorem bl_map {α : Type} (ds : List α) (b : α → Bool) : ds.map (fun d => V.bl (b d)) = (ds.map b).map V.bl := by rw [List.map_map]; rfl
theorem all_id {α : Type} (ds : List α) (b : α → Bool) : (ds.map b).all id = ds.all b := by rw [List.all_map]; rfl
def spWts (K : PySem.W.Frag) : Sp := fun vs H Q _ => ∃ (v : V) (d : PyData) (most great : Int), vs = [v, .int most, .int great] ∧ Dq K H v d ∧ ∀ H', Same H H' → Q (.bl (weightsD d most great)) H'
theorem ok_wts {f gT gB : Addr} {fd dT dB : FuncData} (F : Fun K "are_weights" "are_weights" sWeights f fd) (T : Tb mg) (GT : FnOk P w K mg base CX0 1 gT dT ["thing", "least", "most"] (spTupG K)) (bT : Binds K dT ["thing", "least", "most"] []) (kT : PySem.W.keepIn K (.ref gT) = true) (mT : mg "is_tuple" = some (.ref gT))
    (GB : FnOk P w K mg base CX0 2 gB dB ["thing", "low", "high"] (spBetG K)) (bB : Binds K dB ["thing", "low", "high"] []) (kB : PySem.W.keepIn K (.ref gB) = true) (mB : mg "is_between" = some (.ref gB)) : FnOk P w K mg base CX0 3 f fd ["thing", "most", "greatest"] (spWts K) := by
  refine F.ok scWts (fun vs H Q E h => ?_) (fun cdv A outer s H vs Q E hr h => ?_)
  · obtain ⟨v, d, m, g, rfl, _⟩ := h
    rfl
  obtain ⟨v, d, most, great, rfl, hd, q⟩ := h
  have hr1 : Room 1 _ := hr.mono (by decide)
  refine ⟨_, pss_one (ps_ret (pe_and (pe_call GT hr1 rfl mT kT bT .nil pass0 (pa_cons (pv 0) (pa_cons pe_int (pa_cons (pv 1) pa_nil)))) (pe_one (pe_callB (cr_all rfl) rfl T.all bf_all (pa_cons (pe_lc (own := [("weight", 3)]) (g := gName 3) (by rfl) scWts.nd (pi_tup (pv 0)) (blkOk_by (own := [("weight", 3)]) (N := nWts) (sc := defScope sWeights) (by decide +kernel))
        (fun _ _ _ _ _ => pg_name (i := 3) scWts.nd rfl (Or.inl rfl)) (fun _ _ _ _ _ => pts_nil) (fun _ _ _ _ _ => pe_call GB hr rfl mB kB bB .nil pass0 (pa_cons (pv 3) (pa_cons (pe_un un_neg (pv 2)) (pa_cons (pv 2) pa_nil))))) pa_nil))))), ?_⟩
  have big : sizeLine = 16777216 := sizeLine_eq
  refine ⟨_, rfl, _, rfl, v, d, 1, most, rfl, hd, _, rfl, ite2 (fun c => ?_) (fun c => ?_)⟩
  · obtain ⟨ps, rfl, hp1, hp2⟩ := isTupD_ex c
    cases hd with
    | tup hs hn ha =>
    rename_i t xs
    have lx := dqAll_len ha
    have pa := dqAll_pair ha
    refine ⟨_, rfl, t, rfl, ⟨_, hs⟩, fun D1 hD1 => lq_T (Dq K H) (fun p => .bl (inD p (-great) great)) hs pa (by omega) hD1.1 (fun _ => rfl) (fun x p H' Q' hm hx s' q' => ?_) (fun H1 s1 e1 => ?_)⟩
    · obtain ⟨k, hk, _⟩ := Dq.ki (Dq.same s' hx)
      refine ⟨_, rfl, _, rfl, great, rfl, _, rfl, x, k, -great, great, rfl, hk, ?_⟩
      rw [Dq.inB hx]
      exact q' H' sameR
    · rw [bl_map] at e1
      refine ⟨D1, _, rfl, SqL.of e1, ?_⟩
      have z := q H1 s1
      unfold weightsD at z
      rw [c, Bool.true_and] at z
      rw [all_id]
      exact z
  · have z := q H sameR
    unfold weightsD at z
    rw [Bool.eq_false_iff.mpr c, Bool.false_and] at z
    exact z
end
end Mk
namespace Mk
open PySem L2 PyProof.Rows
abbrev sHeld : Stmt := top 1
abbrev sRounded : Stmt := top 2
abbrev sErr : Stmt := top 33
abbrev sWidth : Stmt := top 23
abbrev sLow : Stmt := top 32
theorem bf_max : bootBuiltins "max" = some (.builtin "max") := by decide +kernel
theorem bf_min : bootBuiltins "min" = some (.builtin "min") := by decide +kernel
theorem bf_abs : bootBuiltins "abs" = some (.builtin "abs") := by decide +kernel
theorem bf_sum : bootBuiltins "sum" = some (.builtin "sum") := by decide +kernel
/-- a number held within 0 and d -/
def heldZ (n d : Int) : Int := if d < (if 0 > n then 0 else n) then d else (if 0 > n then 0 else n)
def roundedZ (t b p d : Int) : Int := heldZ ((2 * t + b) / (2 * b) + p) d
def absZ (i : Int) : Int := if i < 0 then -i else i
def errZ (t b p d : Int) : Int := absZ (b * roundedZ t b p d - heldZ (t + b * p) (b * d))
theorem absZ_nat (i : Int) : absZ i = (i.natAbs : Int) := by unfold absZ; split <;> omega
section
variable {P : Program} {w : World} {K : PySem.W.Frag} {mg : Str → Option Value} {base : Heap}
theorem scHeld : FnScope ["number", "depth"] ["number", "depth"] (defScope sHeld) := ⟨rfl, rfl, rfl, by decide +kernel, rfl, by decide +kernel, by decide +kernel⟩
def spHeld : Sp := fun vs H Q _ => ∃ n d : Int, vs = [.int n, .int d] ∧ Q (.int (heldZ n d)) H
theorem ok_held {f : Addr} {fd : FuncData} (F : Fun K "held" "held" sHeld f fd) (hmin : mg "min" = none) (hmax : mg "max" = none) : FnOk P w K mg base CX0 1 f fd ["number", "depth"] spHeld := by
  refine F.ok scHeld (fun vs H Q E h => ?_) (fun cdv A outer s H vs Q E hr h => ?_)
  · obtain ⟨n, d, rfl, _⟩ := h
    rfl
  obtain ⟨n, d, rfl, q⟩ := h
  refine ⟨_, pss_one (ps_ret (pe_callB (call_min2 rfl) rfl hmin bf_min (pa_cons (pe_callB (call_max2 rfl) rfl hmax bf_max (pa_cons (pv 0) (pa_cons pe_int pa_nil))) (pa_cons (pv 1) pa_nil)))), ?_⟩
  exact ⟨_, rfl, n, 0, rfl, _, rfl, _, d, rfl, q⟩
theorem scRounded : FnScope ["total", "by", "plus", "depth"] ["total", "by", "plus", "depth"] (defScope sRounded) := ⟨rfl, rfl, rfl, by decide +kernel, rfl, by decide +kernel, by decide +kernel⟩
def spRounded : Sp := fun vs H Q _ => ∃ t b p d : Int, vs = [.int t, .int b, .int p, .int d] ∧ 0 < b ∧ b ≤ 100000 ∧ Q (.int (roundedZ t b p d)) H
theorem ok_rounded {f g : Addr} {fd gd : FuncData} (F : Fun K "rounded" "rounded" sRounded f fd) (G : FnOk P w K mg base CX0 1 g gd ["number", "depth"] spHeld) (bG : Binds K gd ["number", "depth"] []) (kG : PySem.W.keepIn K (.ref g) = true) (mG : mg "held" = some (.ref g)) : FnOk P w K mg base CX0 2 f fd ["total", "by", "plus", "depth"] spRounded := by
  refine F.ok scRounded (fun vs H Q E h => ?_) (fun cdv A outer s H vs Q E hr h => ?_)
  · obtain ⟨t, b, p, d, rfl, _⟩ := h
    rfl
  obtain ⟨t, b, p, d, rfl, h1, h2, q⟩ := h
  refine ⟨_, pss_one (ps_ret (pe_call G hr rfl mG kG bG .nil pass0 (pa_cons (pe_op op_add (pe_op op_fdiv (pe_op op_add (pe_op op_mul pe_int (pv 0)) (pv 1)) (pe_op op_mul pe_int (pv 1))) (pv 2)) (pa_cons (pv 3) pa_nil)))), ?_⟩
  refine ⟨_, rfl, 2, t, rfl, rfl, .inl (by omega), _, rfl, _, b, rfl, rfl, _, rfl, 2, b, rfl, rfl, .inl (by omega), _, _, rfl, rfl, ⟨by omega, by omega⟩, _, rfl, _, p, rfl, rfl, _, rfl, _, d, rfl, q⟩
end
end Mk
namespace L2
open PySem PySem.Spec PyProof.Rows
theorem qs_while {X : Cx} {c : Expr} {body : List Stmt} {tc : TT} {tb : TS} {pos : Pos} (hp : PassesOwn (model X.prog X.w) X.A X.env X.xe) (hc : QT X c tc) (hb : QSs X body tb) : QS X (.While c body [] pos) (tWhile tc tb) := ⟨ps_while hp hc.r hb.r⟩
end L2
namespace Mk
open PySem L2 PyProof.Rows
section
variable {P : Program} {w : World} {K : PySem.W.Frag} {mg : Str → Option Value} {base : Heap}
theorem scErr : FnScope ["total", "by", "plus", "depth"] ["total", "by", "plus", "depth"] (defScope sErr) := ⟨rfl, rfl, rfl, by decide +kernel, rfl, by decide +kernel, by decide +kernel⟩
def spErr : Sp := fun vs H Q _ => ∃ t b p d : Int, vs = [.int t, .int b, .int p, .int d] ∧ 0 < b ∧ b ≤ 100000 ∧ Q (.int (errZ t b p d)) H
theorem ok_err {f gR gH : Addr} {fd dR dH : FuncData} (F : Fun K "error_of" "error_of" sErr f fd) (habs : mg "abs" = none) (GR : FnOk P w K mg base CX0 2 gR dR ["total", "by", "plus", "depth"] spRounded) (bR : Binds K dR ["total", "by", "plus", "depth"] []) (kR : PySem.W.keepIn K (.ref gR) = true) (mR : mg "rounded" = some (.ref gR))
    (GH : FnOk P w K mg base CX0 1 gH dH ["number", "depth"] spHeld) (bH : Binds K dH ["number", "depth"] []) (kH : PySem.W.keepIn K (.ref gH) = true) (mH : mg "held" = some (.ref gH)) : FnOk P w K mg base CX0 3 f fd ["total", "by", "plus", "depth"] spErr := by
  refine F.ok scErr (fun vs H Q E h => ?_) (fun cdv A outer s H vs Q E hr h => ?_)
  · obtain ⟨t, b, p, d, rfl, _⟩ := h
    rfl
  obtain ⟨t, b, p, d, rfl, h1, h2, q⟩ := h
  have hr1 : Room 1 _ := hr.mono (by decide)
  refine ⟨_, pss_one (ps_ret (pe_callB call_abs rfl habs bf_abs (pa_cons (pe_op op_sub (pe_op op_mul (pv 1) (pe_call GR hr rfl mR kR bR .nil pass0 (pa_cons (pv 0) (pa_cons (pv 1) (pa_cons (pv 2) (pa_cons (pv 3) pa_nil))))))
    (pe_call GH hr1 rfl mH kH bH .nil pass0 (pa_cons (pe_op op_add (pv 0) (pe_op op_mul (pv 1) (pv 2))) (pa_cons (pe_op op_mul (pv 1) (pv 3)) pa_nil)))) pa_nil))), ?_⟩
  have hb : CMul b p := .inl (by omega)
  have hb2 : CMul b d := .inl (by omega)
  refine ⟨_, rfl, _, rfl, _, rfl, _, rfl, _, rfl, t, b, p, d, rfl, h1, h2, b, roundedZ t b p d, rfl, rfl, .inl (by omega), _, rfl, _, rfl, _, rfl, b, p, rfl, rfl, hb, t, b * p, rfl, rfl, _, rfl, _, rfl, b, d, rfl, rfl, hb2, _, _, rfl, b * roundedZ t b p d, heldZ (t + b * p) (b * d), rfl, rfl, _, rfl, q⟩
theorem scWidth : FnScope ["weights", "depth", "weight"] ["weights", "depth"] (defScope sWidth) := ⟨rfl, rfl, rfl, by decide +kernel, rfl, by decide +kernel, by decide +kernel⟩
def widthZ (ws : List Int) (d : Int) : Int := d * (ws.map absZ).sum
def spWidth (K : PySem.W.Frag) : Sp := fun vs H Q _ => ∃ (a : Addr) (ws : List Int) (d : Int), vs = [.ref a, .int d] ∧ SqT K H a (ws.map V.int) ∧ ws.length ≤ 1000 ∧ 0 ≤ d ∧ d ≤ 100000 ∧ ∀ H', Same H H' → Q (.int (widthZ ws d)) H'
theorem paired_map {α β : Type} {F : β → α → Prop} (f : α → β) (h : ∀ a, F (f a) a) : ∀ l : List α, Paired F (l.map f) l
  | [] => .nil
  | a :: l => .cons (h a) (paired_map f h l)
theorem ok_width {f : Addr} {fd : FuncData} (F : Fun K "width_of" "width_of" sWidth f fd) (habs : mg "abs" = none) (hsum : mg "sum" = none) : FnOk P w K mg base CX0 1 f fd ["weights", "depth"] (spWidth K) := by
  refine F.ok scWidth (fun vs H Q E h => ?_) (fun cdv A outer s H vs Q E hr h => ?_)
  · obtain ⟨a, ws, d, rfl, _⟩ := h
    rfl
  obtain ⟨a, ws, d, rfl, hs, hl, h1, h2, q⟩ := h
  have big : sizeLine = 16777216 := sizeLine_eq
  refine ⟨_, pss_one (ps_ret (pe_op op_mul (pv 1) (pe_callB (cr_sum rfl) rfl hsum bf_sum (pa_cons (pe_lc (own := [("weight", 2)]) (g := gName 2) (by rfl) scWidth.nd (pi_tup (pv 0)) (blkOk_by (own := [("weight", 2)]) (N := ["weights", "depth", "weight"]) (sc := defScope sWidth) (by decide +kernel))
        (fun _ _ _ _ _ => pg_name (i := 2) scWidth.nd rfl (Or.inl rfl)) (fun _ _ _ _ _ => pts_nil) (fun _ _ _ _ _ => pe_callB call_abs rfl habs bf_abs (pa_cons (pv 2) pa_nil))) pa_nil)))), ?_⟩
  refine ⟨_, rfl, _, rfl, a, rfl, ⟨_, hs⟩, fun D1 hD1 => lq_T (fun x n => x = .int n) (fun n => .int (absZ n)) hs (paired_map V.int (fun _ => rfl) ws) (by rw [List.length_map]; omega) hD1.1 (fun _ => rfl) (fun x n H' Q' hm hx s' q' => ?_) (fun H1 s1 e1 => ?_)⟩
  · subst hx
    exact ⟨_, rfl, n, rfl, q' H' sameR⟩
  · refine ⟨D1, ws.map absZ, rfl, SqL.of (by rw [List.map_map]; exact e1), d, _, rfl, rfl, .inl (by omega), q H1 s1⟩
theorem scLow : FnScope ["top", "bottom", "one", "other"] ["top", "bottom"] (defScope sLow) := ⟨rfl, rfl, rfl, by decide +kernel, rfl, by decide +kernel, by decide +kernel⟩
/-- top / bottom in lowest terms -/
def lowZ (top bottom : Int) : Int × Int := (top / (Nat.gcd bottom.toNat top.toNat : Int), bottom / (Nat.gcd bottom.toNat top.toNat : Int))
theorem gcd_step {a b : Int} (ha : 0 ≤ a) (hb : 0 < b) : Nat.gcd b.toNat (a % b).toNat = Nat.gcd a.toNat b.toNat := by
  have e : (a % b).toNat = a.toNat % b.toNat := by
    obtain ⟨m, rfl⟩ := Int.eq_ofNat_of_zero_le ha
    obtain ⟨n, rfl⟩ := Int.eq_ofNat_of_zero_le (Int.le_of_lt hb)
    rw [show ((m : Int) % (n : Int)) = ((m % n : Nat) : Int) from rfl]
    rfl
  rw [e, Nat.gcd_comm b.toNat (a.toNat % b.toNat), ← Nat.gcd_rec, Nat.gcd_comm]
def spLow : Sp := fun vs H Q _ => ∃ t b : Int, vs = [.int t, .int b] ∧ 0 ≤ t ∧ 0 < b ∧ b ≤ 100000 ∧ ∀ p, H p = none → Q (.ref p) (upd H p (.tup [.int (lowZ t b).1, .int (lowZ t b).2]))
theorem ok_low {f : Addr} {fd : FuncData} (F : Fun K "in_lowest_terms" "in_lowest_terms" sLow f fd) : FnOk P w K mg base CX0 1 f fd ["top", "bottom"] spLow := by
  refine F.okQ scLow (fun vs H Q E h => ?_) (fun cdv A outer s H vs Q E hr h => ?_)
  · obtain ⟨t, b, rfl, _⟩ := h
    rfl
  obtain ⟨t, b, rfl, h1, h2, h3, q⟩ := h
  refine ⟨_, (qss_cut (qs (ps_par (i := 2) (j := 3) (by rfl) scLow.nd rfl rfl (by decide) rfl rfl (pa_cons (pv 1) (pa_cons (pv 0) pa_nil)) (by rfl)))
    (qss_cut (qs_while PassesOwn.never (qt (pt_cmpR op_ne (pv 3) pe_int (nomark _))) (qss1 (qs (ps_par (i := 2) (j := 3) (by rfl) scLow.nd rfl rfl (by decide) rfl rfl (pa_cons (pv 3) (pa_cons (pe_op op_mod (pv 2) (pv 3)) pa_nil)) (by rfl)))))
    (qss1 (qs_ret (q_tup (qc (qe (pe_op op_fdiv (pv 0) (pv 2))) (qc (qe (pe_op op_fdiv (pv 1) (pv 2))) qa_nil))))))), ?_⟩
  let S : Int → Int → L2.St := fun a c => [some (.int t), some (.int b), some (.int a), some (.int c)]
  let g : Nat := Nat.gcd b.toNat t.toNat
  have gpos : 0 < g := Nat.gcd_pos_of_pos_left _ (by omega)
  have gle : (g : Int) ≤ b := by
    have := Nat.le_of_dvd (by omega : 0 < b.toNat) (Nat.gcd_dvd_left b.toNat t.toNat)
    show ((Nat.gcd b.toNat t.toNat : Nat) : Int) ≤ b
    omega
  refine ⟨fun σ' H' => σ' = S b t ∧ H' = H, ⟨_, rfl, _, rfl, _, _, rfl, rfl, rfl⟩, ?_⟩
  rintro σ1 H1 ⟨e1, e2⟩
  rw [e1, e2]
  refine ⟨fun σ' H' => σ' = S g 0 ∧ H' = H, ⟨fun m σ' H' => ∃ a c : Int, H' = H ∧ σ' = S a c ∧ 0 < a ∧ 0 ≤ c ∧ m = c.toNat ∧ Nat.gcd a.toNat c.toNat = g, ⟨_, b, t, rfl, rfl, h2, h1, rfl, rfl⟩, ?_⟩, ?_⟩
  · rintro m σ1 H1 ⟨a, c, e1, e2, ha, hc, rfl, hg⟩
    rw [e1, e2]
    refine ⟨_, rfl, rfl, _, rfl, ?_⟩
    by_cases e : c = 0
    · subst e
      have ea : a = (g : Int) := by
        rw [show (0 : Int).toNat = 0 from rfl, Nat.gcd_zero_right] at hg
        omega
      have z : (!decide (V.int 0 = V.int 0)) = false := by simp
      rw [z]
      exact iteF ⟨by rw [ea], rfl⟩
    · have z : (!decide (V.int c = V.int 0)) = true := by simp [e]
      rw [z]
      have hc' : 0 < c := by omega
      refine iteT ⟨fun σ' H' => σ' = S c (a % c) ∧ H' = H, ?_, ⟨_, rfl, _, rfl, _, rfl, a, c, rfl, rfl, hc', _, _, rfl, rfl, rfl⟩⟩
      rintro σ1 H1 ⟨e1, e2⟩
      have m1 := Int.emod_nonneg a (by omega : c ≠ 0)
      have m2 := Int.emod_lt_of_pos a hc'
      exact ⟨(a % c).toNat, by omega, c, a % c, e2, e1, hc', m1, rfl, by rw [gcd_step (by omega) hc']; exact hg⟩
  · rintro σ1 H1 ⟨e1, e2⟩
    rw [e1, e2]
    exact ⟨_, rfl, _, rfl, t, g, rfl, rfl, ⟨by omega, by omega⟩, _, rfl, _, rfl, b, g, rfl, rfl, ⟨by omega, by omega⟩, by show 2 ≤ sizeLine; decide, fun p hp => q p hp⟩
end
end Mk
namespace Mk
open PySem L2 PyProof.Rows
abbrev sTot : Stmt := top 24
section
variable {P : Program} {w : World} {K : PySem.W.Frag} {mg : Str → Option Value} {base : Heap}
theorem rd_same {H H' : Hp} {a : Addr} {u : HO} (s : Same H H') (h : Rd H a u) : Rd H' a u := h.imp (fun e => s _ _ e) fun ⟨o, e⟩ => ⟨o, s _ _ e⟩
abbrev nTot : List Str := ["sums", "weight", "depth", "low", "high", "reach"]
theorem scTot : FnScope nTot ["sums", "weight", "depth"] (defScope sTot) := ⟨rfl, rfl, rfl, by decide +kernel, rfl, by decide +kernel, by decide +kernel⟩
/-- the totals in the order in which they are looked at -/
def alongZ (lo hi w r : Int) : List Int := if w > 0 then rgN lo 1 (hi + r + 1 - lo).toNat else rgN hi (-1) (hi - (lo + r - 1)).toNat
def spTot : Sp := fun vs H Q _ => ∃ (a : Addr) (kvs : List (Key × V)) (ns : List Int) (wt d lo hi : Int), vs = [.ref a, .int wt, .int d] ∧ Rd H a (.dK kvs) ∧ (kvs.map fun kv => kV kv.1) = ns.map V.int ∧ lo ∈ ns ∧ hi ∈ ns ∧ (∀ y ∈ ns, lo ≤ y ∧ y ≤ hi) ∧ -1000000 ≤ lo ∧ hi ≤ 1000000 ∧ -1000 ≤ wt ∧ wt ≤ 1000 ∧ -1000000 ≤ wt * d ∧ wt * d ≤ 1000000 ∧
  ∀ l H', Same H H' → H l = none → H' l = some (.lst ((alongZ lo hi wt (wt * d)).map V.int)) → Q (.ref l) H'
theorem ok_tot {f : Addr} {fd : FuncData} (F : Fun K "totals_along" "totals_along" sTot f fd) (T : Tb mg) (hmin : mg "min" = none) (hmax : mg "max" = none) : FnOk P w K mg base CX0 1 f fd ["sums", "weight", "depth"] spTot := by
  refine F.okQ scTot (fun vs H Q E h => ?_) (fun cdv A outer s H vs Q E hr h => ?_)
  · obtain ⟨a, kvs, ns, wt, d, lo, hi, rfl, _⟩ := h
    rfl
  obtain ⟨a, kvs, ns, wt, d, lo, hi, rfl, ha, hk, hlo, hhi, hb, b1, b2, b3, b4, b5, b6, q⟩ := h
  refine ⟨_, (qss_cut (qs (ps_par3 (i := 3) (j := 4) (k := 5) (by rfl) scTot.nd rfl rfl rfl (by decide) (by decide) (by decide) rfl rfl rfl
      (pa_cons (pe_callB (cr_min rfl) rfl hmin bf_min (pa_cons (pe_callTy (call_listD rfl) rfl T.list bt_list (pa_cons (pv 0) pa_nil)) pa_nil)) (pa_cons (pe_callB (cr_max rfl) rfl hmax bf_max (pa_cons (pe_callTy (call_listD rfl) rfl T.list bt_list (pa_cons (pv 0) pa_nil)) pa_nil)) (pa_cons (pe_op op_mul (pv 1) (pv 2)) pa_nil))) (by rfl)))
    (qss_cut (qs_if (qt (pt_cmpR op_gt (pv 1) pe_int (nomark _))) (qss1 (qs_ret (qe (pe_callTy (call_list_rg rfl) rfl T.list bt_list (pa_cons (pe_rg2 rfl T.range (pa_cons (pv 3) (pa_cons (pe_op op_add (pe_op op_add (pv 4) (pv 5)) pe_int) pa_nil))) pa_nil))))) qss_nil)
    (qss1 (qs_ret (qe (pe_callTy (call_list_rg rfl) rfl T.list bt_list (pa_cons (pe_rg3 rfl T.range (pa_cons (pv 4) (pa_cons (pe_op op_sub (pe_op op_add (pv 3) (pv 5)) pe_int) (pa_cons (pe_un un_neg pe_int) pa_nil)))) pa_nil))))))), ?_⟩
  have pos : 0 < ns.length := List.length_pos_of_mem hlo
  refine ⟨fun σ' H' => Same H H' ∧ σ' = [some (.ref a), some (.int wt), some (.int d), some (.int lo), some (.int hi), some (.int (wt * d))], ?_, ?_⟩
  · refine ⟨_, rfl, a, kvs, rfl, ha, fun l1 h1 => ⟨l1, ns, rfl, SqL.of (by rw [hk]; exact upd_same), pos, fun m hm hle => ?_⟩⟩
    obtain rfl : m = lo := Int.le_antisymm (hle lo hlo) (hb m hm).1
    have s1 := same_new h1 (.lst (kvs.map fun kv => kV kv.1))
    refine ⟨_, rfl, a, kvs, rfl, rd_same s1 ha, fun l2 h2 => ⟨l2, ns, rfl, SqL.of (by rw [hk]; exact upd_same), pos, fun m2 hm2 hle2 => ?_⟩⟩
    obtain rfl : m2 = hi := Int.le_antisymm (hb m2 hm2).2 (hle2 hi hhi)
    exact ⟨_, rfl, _, rfl, wt, d, rfl, rfl, .inl (by omega), _, _, _, rfl, s1.trans (same_new h2 _), rfl⟩
  · rintro σ1 H1 ⟨s1, e1⟩
    rw [e1]
    refine ⟨fun σ' H' => H' = H1 ∧ ¬ wt > 0 ∧ σ' = [some (.ref a), some (.int wt), some (.int d), some (.int lo), some (.int hi), some (.int (wt * d))], ?_, ?_⟩
    · refine ⟨_, rfl, wt, 0, rfl, rfl, _, rfl, ite2 (fun c => ?_) (fun c => ?_)⟩
      · have c : wt > 0 := of_decide_eq_true c
        refine ⟨_, rfl, _, rfl, _, rfl, hi, wt * d, rfl, rfl, hi + wt * d, 1, rfl, rfl, lo, hi + wt * d + 1, rfl, fun r hr => ?_⟩
        have lo_hi := (hb lo hlo).2
        refine ⟨r, lo, hi + wt * d + 1, 1, (hi + wt * d + 1 - lo).toNat, rfl, upd_same, RgC.pos (by omega) (by omega) (by omega) (by omega), by omega, fun l ⟨hl, _⟩ => ?_⟩
        have s2 := s1.trans (same_new hr (.ext (RgX r lo (hi + wt * d + 1) 1)))
        refine q l _ (s2.trans (same_new hl _)) (none_of s2 hl) ?_
        unfold alongZ
        rw [if_pos c]
        exact upd_same
      · exact ⟨rfl, fun z => c (decide_eq_true z), rfl⟩
    · rintro σ2 H2 ⟨e2, c, e3⟩
      rw [e2, e3]
      have lo_hi := (hb lo hlo).2
      refine ⟨_, rfl, _, rfl, _, rfl, lo, wt * d, rfl, rfl, lo + wt * d, 1, rfl, rfl, 1, rfl, hi, lo + wt * d - 1, -1, rfl, by decide, by decide, fun r hr => ?_⟩
      refine ⟨r, hi, lo + wt * d - 1, -1, (hi - (lo + wt * d - 1)).toNat, rfl, upd_same, RgC.neg (by omega) (by omega) (by omega) (by omega), by omega, fun l ⟨hl, _⟩ => ?_⟩
      have s2 := s1.trans (same_new hr (.ext (RgX r hi (lo + wt * d - 1) (-1))))
      refine q l _ (s2.trans (same_new hl _)) (none_of s2 hl) ?_
      unfold alongZ
      rw [if_neg c]
      exact upd_same
end
end Mk
namespace Mk
/-! ### sums: the least number that leads there -/
def least (S : Int → Bool) (w : Int) (D : Nat) (t : Int) : Option Nat := (List.range (D + 1)).find? fun k => S (t - w * (k : Int))
theorem least_some {S : Int → Bool} {w : Int} {D : Nat} {t : Int} {k : Nat} : least S w D t = some k ↔ S (t - w * (k : Int)) = true ∧ k ≤ D ∧ ∀ j, j < k → S (t - w * (j : Int)) = false := by
  unfold least
  rw [List.find?_range_eq_some]
  constructor
  · rintro ⟨h1, h2, h3⟩
    rw [List.mem_range] at h2
    exact ⟨h1, by omega, fun j hj => by have := h3 j hj; simpa using this⟩
  · rintro ⟨h1, h2, h3⟩
    exact ⟨h1, List.mem_range.mpr (by omega), fun j hj => by rw [h3 j hj]; rfl⟩
theorem least_none {S : Int → Bool} {w : Int} {D : Nat} {t : Int} : least S w D t = none ↔ ∀ j, j ≤ D → S (t - w * (j : Int)) = false := by
  unfold least
  rw [List.find?_range_eq_none]
  constructor
  · intro h j hj
    have := h j (by omega)
    simpa using this
  · intro h j hj
    rw [h j (by omega)]
    rfl
theorem least_zero {S : Int → Bool} {w : Int} {D : Nat} {t : Int} (h : S t = true) : least S w D t = some 0 := by
  rw [least_some]
  refine ⟨?_, Nat.zero_le _, fun j hj => absurd hj (Nat.not_lt_zero _)⟩
  have : t - w * ((0 : Nat) : Int) = t := by simp
  rw [this]
  exact h
theorem shift (t w : Int) (j : Nat) : t - w - w * (j : Int) = t - w * ((j + 1 : Nat) : Int) := by
  rw [show ((j + 1 : Nat) : Int) = (j : Int) + 1 from rfl, Int.mul_add]
  omega
theorem least_step {S : Int → Bool} {w : Int} {D : Nat} {t : Int} (h : S t = false) : least S w D t = (least S w D (t - w)).bind fun k => if k < D then some (k + 1) else none := by
  have z : ∀ j : Nat, j = 0 → S (t - w * (j : Int)) = false := fun j e => by
    subst e
    have : t - w * ((0 : Nat) : Int) = t := by simp
    rw [this]
    exact h
  cases e : least S w D (t - w) with
  | none =>
    show _ = none
    rw [least_none] at e ⊢
    intro j hj
    cases j with
    | zero => exact z 0 rfl
    | succ j =>
      have := e j (by omega)
      rw [shift] at this
      exact this
  | some k =>
    rw [least_some] at e
    obtain ⟨e1, e2, e3⟩ := e
    show _ = if k < D then some (k + 1) else none
    split
    · rename_i hk
      rw [least_some]
      refine ⟨by rw [← shift]; exact e1, by omega, fun j hj => ?_⟩
      cases j with
      | zero => exact z 0 rfl
      | succ j =>
        have := e3 j (by omega)
        rw [shift] at this
        exact this
    · rename_i hk
      rw [least_none]
      intro j hj
      cases j with
      | zero => exact z 0 rfl
      | succ j =>
        have := e3 j (by omega)
        rw [shift] at this
        exact this
end Mk
namespace Mk
open PySem L2 PyProof.Rows
/-- the i-th total looked at -/
def totAt (lo hi w : Int) (i : Nat) : Int := if w > 0 then lo + (i : Int) else hi - (i : Int)
/-- looked at already, behind i turns -/
def seenB (lo hi w : Int) (i : Nat) (t : Int) : Bool := if w > 0 then decide (lo ≤ t ∧ t < lo + (i : Int)) else decide (hi - (i : Int) < t ∧ t ≤ hi)
theorem along_get {lo hi w r : Int} {i : Nat} {t : Int} (h : (alongZ lo hi w r)[i]? = some t) : t = totAt lo hi w i := by
  unfold alongZ at h
  unfold totAt
  by_cases c : w > 0
  · rw [if_pos c] at h ⊢
    unfold rgN at h
    rw [List.getElem?_map] at h
    cases e : (List.range (hi + r + 1 - lo).toNat)[i]? with
    | none => rw [e] at h; cases h
    | some k =>
      rw [e] at h
      obtain ⟨_, rfl⟩ := List.getElem?_eq_some_iff.mp e
      simp at h
      omega
  · rw [if_neg c] at h ⊢
    unfold rgN at h
    rw [List.getElem?_map] at h
    cases e : (List.range (hi - (lo + r - 1)).toNat)[i]? with
    | none => rw [e] at h; cases h
    | some k =>
      rw [e] at h
      obtain ⟨_, rfl⟩ := List.getElem?_eq_some_iff.mp e
      simp at h
      omega
theorem along_len (lo hi w r : Int) : (alongZ lo hi w r).length = if w > 0 then (hi + r + 1 - lo).toNat else (hi - (lo + r - 1)).toNat := by
  unfold alongZ
  split <;> simp [rgN]
theorem seen_succ (lo hi w : Int) (i : Nat) (t : Int) : seenB lo hi w (i + 1) t = (decide (t = totAt lo hi w i) || seenB lo hi w i t) := by
  unfold seenB totAt
  by_cases c : w > 0
  · simp only [if_pos c]
    by_cases e : t = lo + (i : Int)
    · subst e
      rw [decide_eq_true rfl, Bool.true_or]
      exact decide_eq_true (by omega)
    · rw [decide_eq_false e, Bool.false_or]
      exact decide_eq_decide.mpr (by omega)
  · simp only [if_neg c]
    by_cases e : t = hi - (i : Int)
    · subst e
      rw [decide_eq_true rfl, Bool.true_or]
      exact decide_eq_true (by omega)
    · rw [decide_eq_false e, Bool.false_or]
      exact decide_eq_decide.mpr (by omega)
theorem seen_not (lo hi w : Int) (i : Nat) : seenB lo hi w i (totAt lo hi w i) = false := by
  unfold seenB totAt
  split <;> exact decide_eq_false (by omega)
theorem seen_zero (lo hi w t : Int) : seenB lo hi w 0 t = false := by
  unfold seenB
  split <;> exact decide_eq_false (by omega)
/-- what was told of the total a weight behind is what there is to tell -/
theorem back_ok {S : Int → Bool} {lo hi w : Int} {D i : Nat} (hS : ∀ t, S t = true → lo ≤ t ∧ t ≤ hi) (hn : S (totAt lo hi w i) = false) :
    (if seenB lo hi w i (totAt lo hi w i - w) then least S w D (totAt lo hi w i - w) else none) = least S w D (totAt lo hi w i - w) := by
  by_cases c : seenB lo hi w i (totAt lo hi w i - w) = true
  · rw [if_pos c]
  · rw [if_neg c]
    symm
    rw [least_none]
    intro j hj
    cases e : S (totAt lo hi w i - w - w * (j : Int)) with
    | false => rfl
    | true =>
      exfalso
      obtain ⟨e1, e2⟩ := hS _ e
      unfold seenB totAt at c
      unfold totAt at e1 e2 hn
      by_cases cw : w > 0
      · rw [if_pos cw, if_pos cw, decide_eq_true_eq] at c
        rw [if_pos cw] at e1 e2
        have : 0 ≤ w * (j : Int) := Int.mul_nonneg (by omega) (by omega)
        omega
      · rw [if_neg cw, if_neg cw, decide_eq_true_eq] at c
        rw [if_neg cw] at e1 e2 hn
        by_cases w0 : w = 0
        · subst w0
          unfold totAt at e
          rw [if_neg (by omega)] at e
          simp at e
          rw [hn] at e
          cases e
        · have : w * (j : Int) ≤ 0 := Int.mul_nonpos_of_nonpos_of_nonneg (by omega) (by omega)
          omega
/-- all that is told of was looked at -/
theorem seen_all {S : Int → Bool} {lo hi w d t : Int} {k : Nat} (hd : 0 ≤ d) (hS : ∀ t, S t = true → lo ≤ t ∧ t ≤ hi) (h : least S w d.toNat t = some k) : seenB lo hi w (alongZ lo hi w (w * d)).length t = true := by
  rw [least_some] at h
  obtain ⟨h1, h2, _⟩ := h
  obtain ⟨e1, e2⟩ := hS _ h1
  rw [along_len]
  unfold seenB
  have hk : (k : Int) ≤ d := by omega
  by_cases c : w > 0
  · rw [if_pos c, if_pos c]
    have m1 : 0 ≤ w * (k : Int) := Int.mul_nonneg (by omega) (by omega)
    have m2 : w * (k : Int) ≤ w * d := Int.mul_le_mul_of_nonneg_left hk (by omega)
    exact decide_eq_true (by omega)
  · rw [if_neg c, if_neg c]
    have m1 : w * (k : Int) ≤ 0 := Int.mul_nonpos_of_nonpos_of_nonneg (by omega) (by omega)
    have m2 : w * d ≤ w * (k : Int) := Int.mul_le_mul_of_nonpos_left (by omega) hk
    exact decide_eq_true (by omega)
end Mk
namespace Mk
open PySem L2 PyProof.Rows
abbrev sWid : Stmt := top 25
section
variable {P : Program} {w : World} {K : PySem.W.Frag} {mg : Str → Option Value} {base : Heap}
abbrev nWid : List Str := ["sums", "weight", "depth", "told", "total"]
theorem scWid : FnScope nWid ["sums", "weight", "depth"] (defScope sWid) := ⟨rfl, rfl, rfl, by decide +kernel, rfl, by decide +kernel, by decide +kernel⟩
/-- a dict of numbers that tells f -/
structure TabI (kvs : List (Key × V)) (f : Int → Option Nat) : Prop where
  val : ∀ t : Int, valV kvs (.inl t) = (f t).map fun (k : Nat) => V.int (k : Int)
  key : ∀ kv ∈ kvs, ∃ t : Int, kv.1 = .inl t
theorem putK_len {kvs : List (Key × V)} {k : Key} {v : V} : (putK kvs k v).length ≤ kvs.length + 1 := by
  unfold putK; split <;> simp
theorem putK_key {kvs : List (Key × V)} {k : Key} {v : V} {kv : Key × V} (h : kv ∈ putK kvs k v) : kv.1 = k ∨ ∃ q ∈ kvs, q.1 = kv.1 := by
  unfold putK at h
  split at h
  · obtain ⟨q, hq, e⟩ := List.mem_map.mp h
    refine .inr ⟨q, hq, ?_⟩
    split at e <;> (subst e; rfl)
  · rcases List.mem_append.mp h with h | h
    · exact .inr ⟨kv, h, rfl⟩
    · exact .inl (by rw [List.mem_singleton.mp h])
theorem TabI.put {kvs : List (Key × V)} {f g : Int → Option Nat} {t : Int} {k : Nat} (h : TabI kvs f) (e : g t = some k) (o : ∀ u, u ≠ t → g u = f u) : TabI (putK kvs (.inl t) (.int (k : Int))) g where
  val := fun u => by
    rw [valV_put]
    by_cases c : u = t
    · subst c; rw [if_pos rfl, e]; rfl
    · rw [if_neg (fun z => c (Sum.inl.inj z)), o u c]; exact h.val u
  key := fun kv hkv => by
    rcases putK_key hkv with e | ⟨q, hq, e⟩
    · exact ⟨t, e⟩
    · obtain ⟨u, eu⟩ := h.key q hq
      exact ⟨u, e ▸ eu⟩
def sumB (kvs : List (Key × V)) (t : Int) : Bool := (valV kvs (.inl t)).isSome
def spWid : Sp := fun vs H Q _ => ∃ (a : Addr) (kvs : List (Key × V)) (ns : List Int) (wt d lo hi : Int), vs = [.ref a, .int wt, .int d] ∧ Rd H a (.dK kvs) ∧ (kvs.map fun kv => kV kv.1) = ns.map V.int ∧ lo ∈ ns ∧ hi ∈ ns ∧ (∀ y ∈ ns, lo ≤ y ∧ y ≤ hi) ∧ -1000000 ≤ lo ∧ hi ≤ 1000000 ∧ -1000 ≤ wt ∧ wt ≤ 1000 ∧ -1000000 ≤ wt * d ∧ wt * d ≤ 1000000 ∧ 0 ≤ d ∧
  ∀ b kvs' H', Same H H' → H b = none → H' b = some (.dK kvs') → TabI kvs' (least (sumB kvs) wt d.toNat) → Q (.ref b) H'
theorem sum_in {kvs : List (Key × V)} {ns : List Int} {t : Int} (hk : (kvs.map fun kv => kV kv.1) = ns.map V.int) (h : sumB kvs t = true) : t ∈ ns := by
  obtain ⟨v, e⟩ := Option.isSome_iff_exists.mp h
  have := valV_in e
  obtain ⟨kv, hkv, ek⟩ := List.mem_map.mp this
  have h2 : kV kv.1 ∈ kvs.map fun kv => kV kv.1 := List.mem_map_of_mem hkv
  rw [hk, ek] at h2
  obtain ⟨u, hu, eu⟩ := List.mem_map.mp h2
  cases eu
  exact hu
theorem ok_wid {f g : Addr} {fd gd : FuncData} (F : Fun K "widened" "widened" sWid f fd) (G : FnOk P w K mg base CX0 1 g gd ["sums", "weight", "depth"] spTot) (bG : Binds K gd ["sums", "weight", "depth"] []) (kG : PySem.W.keepIn K (.ref g) = true) (mG : mg "totals_along" = some (.ref g)) : FnOk P w K mg base CX0 2 f fd ["sums", "weight", "depth"] spWid := by
  refine F.okQ scWid (fun vs H Q E h => ?_) (fun cdv A outer s H vs Q E hr h => ?_)
  · obtain ⟨a, kvs, ns, wt, d, lo, hi, rfl, _⟩ := h
    rfl
  obtain ⟨a, kvs, ns, wt, d, lo, hi, rfl, ha, hk, hlo, hhi, hb, b1, b2, b3, b4, b5, b6, hd, q⟩ := h
  have big : sizeLine = 16777216 := sizeLine_eq
  refine ⟨_, (qss_cut (qs (ps_set (i := 3) scWid.nd rfl (Or.inl rfl) pe_dnewK (by rfl)))
    (qss_cut (qs_for PassesOwn.never rfl (pi_list (pe_call G hr rfl mG kG bG .nil pass0 (pa_cons (pv 0) (pa_cons (pv 1) (pa_cons (pv 2) pa_nil))))) (pg_name (i := 4) scWid.nd rfl (Or.inl rfl))
      (qss1 (qs_if (qt (pt_cmp (pc_din (hu_of hr) (pv 4) (pv 0)))) (qss1 (qs (ps_dput (hu_of hr) (pv 3) (pv 4) pe_int (by rfl))))
        (qss1 (qs_if (qt (pt_cmpR op_lt (pe_dget2 (hu_of hr) (pv 3) (pe_op op_sub (pv 4) (pv 1)) (pv 2) ⟨by rfl, by rfl, by rfl, by rfl⟩) (pv 2) (nomark _))) (qss1 (qs (ps_dput (hu_of hr) (pv 3) (pv 4) (pe_op op_add (pe_dget (hu_of hr) (pv 3) (pe_op op_sub (pv 4) (pv 1)) (fun _ _ => rfl)) pe_int) (by rfl)))) qss_nil)))))
    (qss1 (qs_ret (qv 3))))), ?_⟩
  have inS : ∀ t, sumB kvs t = true → lo ≤ t ∧ t ≤ hi := fun t ht => hb t (sum_in hk ht)
  let f := least (sumB kvs) wt d.toNat
  let L := alongZ lo hi wt (wt * d)
  refine ⟨fun σ' H' => ∃ b, σ' = [some (.ref a), some (.int wt), some (.int d), some (.ref b), none] ∧ H b = none ∧ H' = upd H b (.dK []), fun b hb0 => ⟨b, rfl, hb0, rfl⟩, ?_⟩
  rintro σ1 H1 ⟨b, e1, hb0, e2⟩
  rw [e1]
  have s1 : Same H H1 := by rw [e2]; exact same_new hb0 _
  have eb1 : H1 b = some (.dK []) := by rw [e2]; exact upd_same
  refine ⟨fun σ' H' => ∃ v kvs', σ' = [some (.ref a), some (.int wt), some (.int d), some (.ref b), v] ∧ Same H H' ∧ H' b = some (.dK kvs') ∧ TabI kvs' f, ?_, ?_⟩
  rotate_left
  · rintro σ2 H2 ⟨v, kvs', e3, s2, e4, tb⟩
    rw [e3]
    exact ⟨_, rfl, q b kvs' H2 s2 hb0 e4 tb⟩
  refine ⟨_, rfl, _, rfl, _, rfl, a, kvs, ns, wt, d, lo, hi, rfl, rd_same s1 ha, hk, hlo, hhi, hb, b1, b2, b3, b4, b5, b6, fun l H2 s2 hl el => ?_⟩
  have hbl : b ≠ l := ne_of_none eb1 hl
  refine ⟨l, rfl, ⟨_, SqL.of el⟩, for_list (K := K) (xs := L.map V.int) (fun i σ' H' => ∃ v kvs', σ' = [some (.ref a), some (.int wt), some (.int d), some (.ref b), v] ∧ Same H H' ∧ H' l = some (.lst (L.map V.int)) ∧ H' b = some (.dK kvs') ∧ TabI kvs' (fun t => if seenB lo hi wt i t then f t else none) ∧ kvs'.length ≤ i) ?_ ?_ ?_ ?_⟩
  · refine ⟨none, [], rfl, s1.trans s2, el, s2 _ _ eb1, ⟨fun t => ?_, fun kv h => nomatch h⟩, Nat.le_refl _⟩
    rw [seen_zero]
    rfl
  · rintro i σ3 H3 _ ⟨v, kvs', _, _, e, _⟩
    exact SqL.of e
  · rintro i x σ3 H3 hx ⟨v, kvs', e3, s3, e4, e5, tb, hlen⟩
    rw [e3]
    rw [List.getElem?_map] at hx
    cases hi' : L[i]? with
    | none => rw [hi'] at hx; cases hx
    | some t =>
    rw [hi'] at hx
    cases hx
    have et := along_get hi'
    have hil : i < L.length := (List.getElem?_eq_some_iff.mp hi').1
    have small : kvs'.length < sizeLine := by
      have l0 := (hb lo hlo).2
      have e : L.length ≤ 4000000 := by
        rw [show L.length = _ from along_len lo hi wt (wt * d)]
        split <;> omega
      omega
    have putOk : ∀ k : Nat, f t = some k → ∃ v' kvs2, [some (V.ref a), some (.int wt), some (.int d), some (.ref b), some (.int t)] = [some (.ref a), some (.int wt), some (.int d), some (.ref b), v'] ∧ Same H (upd H3 b (.dK (putK kvs' (.inl t) (.int (k : Int))))) ∧ upd H3 b (.dK (putK kvs' (.inl t) (.int (k : Int)))) l = some (.lst (L.map V.int)) ∧ upd H3 b (.dK (putK kvs' (.inl t) (.int (k : Int)))) b = some (.dK kvs2) ∧ TabI kvs2 (fun t => if seenB lo hi wt (i + 1) t then f t else none) ∧ kvs2.length ≤ i + 1 := fun k hkk => by
      refine ⟨_, _, rfl, fun c o ec => ?_, (upd_ne hbl.symm).trans e4, upd_same, tb.put ?_ fun u hu => ?_, Nat.le_trans putK_len (by omega)⟩
      · rw [upd_ne (ne_of_none ec hb0)]; exact s3 c o ec
      · rw [seen_succ, et, decide_eq_true rfl, Bool.true_or, if_pos rfl, ← et]; exact hkk
      · rw [seen_succ, decide_eq_false (by rw [← et]; exact hu), Bool.false_or]
    have noPut : f t = none → ∃ v' kvs2, [some (V.ref a), some (.int wt), some (.int d), some (.ref b), some (.int t)] = [some (.ref a), some (.int wt), some (.int d), some (.ref b), v'] ∧ Same H H3 ∧ H3 l = some (.lst (L.map V.int)) ∧ H3 b = some (.dK kvs2) ∧ TabI kvs2 (fun t => if seenB lo hi wt (i + 1) t then f t else none) ∧ kvs2.length ≤ i + 1 := fun hn => by
      refine ⟨_, kvs', rfl, s3, e4, e5, ⟨fun u => ?_, tb.key⟩, by omega⟩
      rw [tb.val u, seen_succ]
      by_cases c : u = totAt lo hi wt i
      · rw [decide_eq_true c, Bool.true_or, if_pos rfl, c, seen_not, ← et]
        rw [hn]; rfl
      · rw [decide_eq_false c, Bool.false_or]
    refine ⟨_, rfl, _, rfl, a, _, rfl, .inl ⟨kvs, .inl t, rd_same s3 ha, rfl, rfl⟩, _, rfl, ?_⟩
    cases hS : sumB kvs t with
    | true =>
      have hS' : (valV kvs (.inl t)).isSome = true := hS
      rw [hS']
      refine iteT ⟨_, rfl, _, rfl, b, _, rfl, DPut.k (k := .inl t) e5 small, ?_⟩
      exact putOk 0 (least_zero hS)
    | false =>
      have hS' : (valV kvs (.inl t)).isSome = false := hS
      rw [hS']
      have back := back_ok (D := d.toNat) inS (by rw [← et]; exact hS)
      rw [← et] at back
      have stp := least_step (w := wt) (D := d.toNat) hS
      have vb : valV kvs' (.inl (t - wt)) = (f (t - wt)).map fun (k : Nat) => V.int (k : Int) := by
        rw [tb.val]
        rw [show (if seenB lo hi wt i (t - wt) then f (t - wt) else none) = f (t - wt) from back]
      refine iteF ⟨_, rfl, b, rfl, .inl ⟨kvs', .inl e5⟩, _, rfl, _, rfl, t, wt, rfl, rfl, _, rfl, _, .inl ⟨kvs', .inl (t - wt), .inl e5, rfl, rfl⟩, ?_⟩
      rw [vb]
      cases hb4 : f (t - wt) with
      | none =>
        refine ⟨_, rfl, d, d, rfl, rfl, _, rfl, ?_⟩
        rw [decide_eq_false (Int.lt_irrefl d)]
        refine iteF (noPut ?_)
        show least _ _ _ _ = none
        rw [stp]
        rw [show least (sumB kvs) wt d.toNat (t - wt) = none from hb4]
        rfl
      | some k =>
        refine ⟨_, rfl, (k : Int), d, rfl, rfl, _, rfl, ?_⟩
        by_cases hkd : (k : Int) < d
        · rw [decide_eq_true hkd]
          refine iteT ⟨_, rfl, _, rfl, _, rfl, t, wt, rfl, rfl, b, V.int (k : Int), rfl, .inl ⟨kvs', .inl (t - wt), .inl e5, rfl, by rw [vb, hb4]; rfl⟩, (k : Int), 1, rfl, rfl, _, rfl, _, rfl, b, _, rfl, DPut.k (k := .inl t) e5 small, ?_⟩
          refine putOk (k + 1) ?_
          show least _ _ _ _ = some (k + 1)
          rw [stp, show least (sumB kvs) wt d.toNat (t - wt) = some k from hb4]
          show (if k < d.toNat then some (k + 1) else none) = _
          rw [if_pos (by omega)]
        · rw [decide_eq_false hkd]
          refine iteF (noPut ?_)
          show least _ _ _ _ = none
          rw [stp, show least (sumB kvs) wt d.toNat (t - wt) = some k from hb4]
          show (if k < d.toNat then some (k + 1) else none) = _
          rw [if_neg (by omega)]
  · rintro σ3 H3 ⟨v, kvs', e3, s3, e4, e5, tb, _⟩
    rw [List.length_map] at tb
    refine ⟨v, kvs', e3, s3, e5, ⟨fun t => ?_, tb.key⟩⟩
    rw [tb.val]
    cases ef : f t with
    | none => split <;> first | rfl | (simp)
    | some k => rw [seen_all hd inS ef, if_pos rfl]
end
end Mk
namespace Mk
open PySem L2 PyProof.Rows
/-- the tables behind each prefix of the weights -/
def tabP (D : Nat) (ws : List Int) : Nat → Int → Option Nat
  | 0 => fun t => if t = 0 then some 0 else none
  | k + 1 => least (fun t => (tabP D ws k t).isSome) (ws.getD k 0) D
def bnd (ws : List Int) (k : Nat) : Int := ((ws.take k).map absZ).sum
theorem absZ_nonneg (i : Int) : 0 ≤ absZ i := by unfold absZ; split <;> omega
theorem absZ_le (i : Int) : -absZ i ≤ i ∧ i ≤ absZ i := by unfold absZ; split <;> omega
theorem bnd_nonneg (ws : List Int) (k : Nat) : 0 ≤ bnd ws k := by
  unfold bnd
  generalize ws.take k = l
  induction l with
  | nil => exact Int.le_refl 0
  | cons x l ih => rw [List.map_cons, List.sum_cons]; have := absZ_nonneg x; omega
theorem bnd_succ {ws : List Int} {k : Nat} {w : Int} (h : ws[k]? = some w) : bnd ws (k + 1) = bnd ws k + absZ w := by
  unfold bnd
  rw [List.take_succ, h]
  simp [List.sum_append]
theorem bnd_le (ws : List Int) (k : Nat) : bnd ws k ≤ (ws.map absZ).sum := by
  have e : (ws.map absZ).sum = bnd ws k + ((ws.drop k).map absZ).sum := by
    unfold bnd
    rw [← List.sum_append, ← List.map_append, List.take_append_drop]
  have : 0 ≤ ((ws.drop k).map absZ).sum := by
    generalize ws.drop k = l
    induction l with
    | nil => exact Int.le_refl 0
    | cons x l ih => rw [List.map_cons, List.sum_cons]; have := absZ_nonneg x; omega
  omega
theorem tab_zero {D : Nat} {ws : List Int} : ∀ k, tabP D ws k 0 = some 0
  | 0 => by show (if (0 : Int) = 0 then some 0 else none) = some 0; rw [if_pos rfl]
  | k + 1 => least_zero (by show (tabP D ws k 0).isSome = true; rw [tab_zero k]; rfl)
theorem getD_of {ws : List Int} {k : Nat} {w : Int} (h : ws[k]? = some w) : ws.getD k 0 = w := by rw [List.getD_eq_getElem?_getD, h]; rfl
theorem tab_bound {D : Nat} {ws : List Int} : ∀ (k : Nat) (t : Int), k ≤ ws.length → (tabP D ws k t).isSome = true → -((D : Int) * bnd ws k) ≤ t ∧ t ≤ (D : Int) * bnd ws k
  | 0, t, _, h => by
    have : t = 0 := by
      by_cases e : t = 0
      · exact e
      · have z : tabP D ws 0 t = none := if_neg e
        rw [z] at h; cases h
    subst this
    have := bnd_nonneg ws 0
    have := Int.mul_nonneg (Int.natCast_nonneg D) this
    omega
  | k + 1, t, hk, h => by
    obtain ⟨w, hw⟩ : ∃ w, ws[k]? = some w := ⟨_, List.getElem?_eq_getElem (by omega)⟩
    obtain ⟨j, hj⟩ := Option.isSome_iff_exists.mp h
    have hj : least (fun t => (tabP D ws k t).isSome) (ws.getD k 0) D t = some j := hj
    rw [getD_of hw, least_some] at hj
    obtain ⟨h1, h2, _⟩ := hj
    have ih := tab_bound k _ (by omega) h1
    rw [bnd_succ hw, Int.mul_add]
    have a1 : absZ (w * (j : Int)) ≤ (D : Int) * absZ w := by
      have : absZ (w * (j : Int)) = absZ w * (j : Int) := by
        rw [absZ_nat, absZ_nat, Int.natAbs_mul]; simp
      rw [this, Int.mul_comm]
      exact Int.mul_le_mul_of_nonneg_right (by omega) (absZ_nonneg w)
    have a2 := absZ_le (w * (j : Int))
    omega
theorem least_min : ∀ (ns : List Int), ns ≠ [] → ∃ lo ∈ ns, ∃ hi ∈ ns, ∀ y ∈ ns, lo ≤ y ∧ y ≤ hi
  | [], h => absurd rfl h
  | [x], _ => ⟨x, List.mem_singleton.mpr rfl, x, List.mem_singleton.mpr rfl, fun y hy => by rw [List.mem_singleton.mp hy]; exact ⟨Int.le_refl _, Int.le_refl _⟩⟩
  | x :: z :: r, _ => by
    obtain ⟨lo, h1, hi, h2, h3⟩ := least_min (z :: r) (List.cons_ne_nil _ _)
    refine ⟨if x ≤ lo then x else lo, ?_, if hi ≤ x then x else hi, ?_, fun y hy => ?_⟩
    · split
      · exact List.mem_cons_self
      · exact List.mem_cons_of_mem _ h1
    · split
      · exact List.mem_cons_self
      · exact List.mem_cons_of_mem _ h2
    · rcases List.mem_cons.mp hy with rfl | hy
      · constructor <;> split <;> omega
      · have := h3 y hy
        constructor <;> split <;> omega
/-- the keys of a table: its numbers -/
theorem TabI.keys {kvs : List (Key × V)} {f : Int → Option Nat} (h : TabI kvs f) : ∃ ns : List Int, (kvs.map fun kv => kV kv.1) = ns.map V.int ∧ ∀ t ∈ ns, (f t).isSome = true := by
  have : ∀ l : List (Key × V), (∀ kv ∈ l, kv ∈ kvs) → ∃ ns : List Int, (l.map fun kv => kV kv.1) = ns.map V.int ∧ ∀ t ∈ ns, (f t).isSome = true := by
    intro l
    induction l with
    | nil => intro _; exact ⟨[], rfl, fun t ht => nomatch ht⟩
    | cons kv l ih =>
      intro hl
      obtain ⟨ns, e, hn⟩ := ih fun q hq => hl q (List.mem_cons_of_mem _ hq)
      obtain ⟨t, et⟩ := h.key kv (hl kv List.mem_cons_self)
      refine ⟨t :: ns, by rw [List.map_cons, List.map_cons, e, et]; rfl, fun u hu => ?_⟩
      rcases List.mem_cons.mp hu with rfl | hu
      · have a1 := valV_any (.inl u : Key) kvs
        have a2 : (kvs.any fun kv => decide (kv.1 = (.inl u : Key))) = true := List.any_eq_true.mpr ⟨kv, hl kv List.mem_cons_self, decide_eq_true et⟩
        rw [a2, h.val u, Option.isSome_map] at a1
        exact a1.symm
      · exact hn u hu
  exact this kvs fun _ h => h
theorem TabI.sum {kvs : List (Key × V)} {f : Int → Option Nat} (h : TabI kvs f) : sumB kvs = fun t => (f t).isSome := funext fun t => by unfold sumB; rw [h.val, Option.isSome_map]
end Mk
namespace L2
open PySem PySem.Spec PyProof.Rows
theorem qs_forT {X : Cx} {tg iter : Expr} {body : List Stmt} {te : TE} {g : TG} {tb : TS} {pos : Pos} (hp : PassesOwn (model X.prog X.w) X.A X.env X.xe) (hc : X.calm = true) (hi : QE X iter te) (hg : PG X tg g) (hb : QSs X body tb)
    (hs : ∀ x, foldedSetIterable iter X.env x = pure x := by intro _; rfl) : QS X (.For tg iter body [] pos) (tFor (iTup X.K te) g tb) := ⟨ps_for hp hc (pi_tup hi.r) hg hb.r hs⟩
theorem ps_setQ {X : Cx} {i : Nat} {x : Str} {e : Expr} {te : TE} {pos pos' : Pos} (hN : X.N.Nodup) (hi : X.N[i]? = some x) (hx : Loc X.env.scope x) (he : QE X e te) (hs : swapsWith e (some (.Name x pos')) pos.line X.env = pure false) (hf : X.fn x = true ∨ X.env.scope.names.lookup x = some .local := by first | exact .inl rfl | exact .inr rfl | assumption) :
    QS X (.Assign [.Name x pos'] e pos) (tAsg te (gName i)) := ⟨ps_set hN hi hx he.r hs hf⟩
end L2
namespace Mk
open PySem L2 PyProof.Rows
abbrev sLay : Stmt := top 26
section
variable {P : Program} {w : World} {K : PySem.W.Frag} {mg : Str → Option Value} {base : Heap}
abbrev nLay : List Str := ["weights", "depth", "layers", "weight"]
theorem scLay : FnScope nLay ["weights", "depth"] (defScope sLay) := ⟨rfl, rfl, rfl, by decide +kernel, rfl, by decide +kernel, by decide +kernel⟩
/-- the list of the tables behind each prefix of the weights, n of them and the first -/
structure LayersAt (H : Hp) (l : Addr) (ds : List Addr) (ws : List Int) (D n : Nat) : Prop where
  at_ : H l = some (.lst (ds.map V.ref))
  len : ds.length = n + 1
  tab : ∀ k, k ≤ n → ∃ b kvs, ds[k]? = some b ∧ H b = some (.dK kvs) ∧ TabI kvs (tabP D ws k)
/-- weights that are not too wide -/
structure Fine (ws : List Int) (d : Int) : Prop where
  d0 : 0 < d
  wide : widthZ ws d ≤ 3000
  many : ws.length ≤ 25
  each : ∀ w ∈ ws, -1000 ≤ w ∧ w ≤ 1000
def spLay (K : PySem.W.Frag) : Sp := fun vs H Q _ => ∃ (a : Addr) (ws : List Int) (d : Int), vs = [.ref a, .int d] ∧ SqT K H a (ws.map V.int) ∧ Fine ws d ∧ ∀ l ds H', Same H H' → H l = none → LayersAt H' l ds ws d.toNat ws.length → Q (.ref l) H'
theorem Fine.abs {ws : List Int} {d w : Int} (f : Fine ws d) (h : w ∈ ws) : -3000 ≤ w * d ∧ w * d ≤ 3000 := by
  obtain ⟨k, hk⟩ := List.getElem?_of_mem h
  have e1 := bnd_succ hk
  have e2 := bnd_le ws (k + 1)
  have e3 := bnd_nonneg ws k
  have e4 := f.wide
  unfold widthZ at e4
  have d0 := f.d0
  have m1 : d * absZ w ≤ d * (ws.map absZ).sum := Int.mul_le_mul_of_nonneg_left (by omega) (by omega)
  have m2 := absZ_le w
  have m3 : w * d ≤ absZ w * d := Int.mul_le_mul_of_nonneg_right m2.2 (by omega)
  have m4 : -absZ w * d ≤ w * d := Int.mul_le_mul_of_nonneg_right m2.1 (by omega)
  rw [Int.mul_comm d (absZ w)] at m1
  rw [Int.neg_mul] at m4
  omega
theorem Fine.tab {ws : List Int} {d t : Int} {k : Nat} (f : Fine ws d) (hk : k ≤ ws.length) (h : (tabP d.toNat ws k t).isSome = true) : -3000 ≤ t ∧ t ≤ 3000 := by
  have d0 := f.d0
  have b := tab_bound k t hk h
  rw [Int.toNat_of_nonneg (by omega)] at b
  have m1 : d * bnd ws k ≤ d * (ws.map absZ).sum := Int.mul_le_mul_of_nonneg_left (bnd_le ws k) (by omega)
  have e4 := f.wide
  unfold widthZ at e4
  omega
theorem ok_lay {f g : Addr} {fd gd : FuncData} (F : Fun K "layered_sums" "layered_sums" sLay f fd) (G : FnOk P w K mg base CX0 2 g gd ["sums", "weight", "depth"] spWid) (bG : Binds K gd ["sums", "weight", "depth"] []) (kG : PySem.W.keepIn K (.ref g) = true) (mG : mg "widened" = some (.ref g)) : FnOk P w K mg base CX0 3 f fd ["weights", "depth"] (spLay K) := by
  refine F.okQ scLay (fun vs H Q E h => ?_) (fun cdv A outer s H vs Q E hr h => ?_)
  · obtain ⟨a, ws, d, rfl, _⟩ := h
    rfl
  obtain ⟨a, ws, d, rfl, hs, fi, q⟩ := h
  have big : sizeLine = 16777216 := sizeLine_eq
  refine ⟨_, (qss_cut (ps_setQ (i := 2) scLay.nd rfl (Or.inl rfl) (q_lst (qc (q_d1 q_int q_int) qa_nil)) (by rfl))
    (qss_cut (qs_forT PassesOwn.never rfl (qv 0) (pg_name (i := 3) scLay.nd rfl (Or.inl rfl)) (qss1 (qs_app (qv 2) (q_call G hr rfl mG kG bG .nil pass0 (qc (q_ix ix_list (qv 2) (q_un un_neg q_int) (fun _ _ => rfl)) (qc (qv 3) (qc (qv 1) qa_nil)))))))
    (qss1 (qs_ret (qv 2))))), ?_⟩
  refine ⟨fun σ' H' => ∃ l b, σ' = [some (.ref a), some (.int d), some (.ref l), none] ∧ Same H H' ∧ H l = none ∧ LayersAt H' l [b] ws d.toNat 0, fun b hb => ⟨upd_same, [(.inl 0, .int 0)], rfl, by show 1 ≤ 15; decide, by show 1 ≤ sizeLine; omega, fun l hl => ?_⟩, ?_⟩
  · have hlb : l ≠ b := fun e => by rw [e, upd_same] at hl; cases hl
    rw [upd_upd] at hl ⊢
    have hl0 : H l = none := by rw [upd_ne hlb] at hl; exact hl
    have eb : (upd (upd H b (.dK (mergeK [] [((.inl 0 : Key), V.int 0)]))) l (.lst [V.ref b])) b = some (.dK [(.inl 0, .int 0)]) := (upd_ne hlb.symm).trans upd_same
    refine ⟨l, b, rfl, (same_new hb _).trans (same_new hl _), hl0, upd_same, rfl, fun k hk => ?_⟩
    obtain rfl : k = 0 := by omega
    refine ⟨b, _, rfl, eb, fun t => ?_, fun kv hkv => ⟨0, by rw [List.mem_singleton.mp hkv]⟩⟩
    show valV [((.inl 0 : Key), V.int 0)] (.inl t) = (if t = 0 then some 0 else none).map fun (k : Nat) => V.int (k : Int)
    by_cases e : t = 0
    · subst e; rw [valV_pos rfl, if_pos rfl]; rfl
    · rw [valV_neg (fun z => e (Sum.inl.inj z).symm), if_neg e]; rfl
  · rintro σ1 H1 ⟨l, b0, e1, s1, hl, la⟩
    rw [e1]
    refine ⟨fun σ' H' => ∃ v ds, σ' = [some (.ref a), some (.int d), some (.ref l), v] ∧ Same H H' ∧ LayersAt H' l ds ws d.toNat ws.length, ?_, ?_⟩
    rotate_left
    · rintro σ2 H2 ⟨v, ds, e2, s2, la2⟩
      rw [e2]
      exact ⟨_, rfl, q l ds H2 s2 hl la2⟩
    refine ⟨_, rfl, a, rfl, ⟨_, hs.same s1⟩, for_tup (K := K) (xs := ws.map V.int) (fun i σ' H' => ∃ v ds, σ' = [some (.ref a), some (.int d), some (.ref l), v] ∧ Same H H' ∧ LayersAt H' l ds ws d.toNat i) ⟨none, [b0], rfl, s1, la⟩ ?_ ?_ ?_⟩
    · rintro i σ3 H3 _ ⟨v, ds, _, s3, _⟩
      exact hs.same s3
    · rintro i x σ3 H3 hx ⟨v, ds, e3, s3, la3⟩
      rw [e3]
      rw [List.getElem?_map] at hx
      cases hi : ws[i]? with
      | none => rw [hi] at hx; cases hx
      | some wt =>
      rw [hi] at hx
      cases hx
      have il : i < ws.length := (List.getElem?_eq_some_iff.mp hi).1
      have wm := List.mem_of_getElem? hi
      obtain ⟨b, kvs, hb, eb, tb⟩ := la3.tab i (Nat.le_refl _)
      obtain ⟨ns, hk, hn⟩ := tb.keys
      have ne : ns ≠ [] := fun e => by
        have z := tb.val 0
        rw [tab_zero] at z
        rw [e] at hk
        have : kvs = [] := List.map_eq_nil_iff.mp hk
        rw [this] at z
        cases z
      obtain ⟨lo, h1, hi', h2, h3⟩ := least_min ns ne
      have bl := fi.tab (Nat.le_of_lt il) (hn lo h1)
      have bh := fi.tab (Nat.le_of_lt il) (hn hi' h2)
      have ab := fi.abs wm
      have ew := fi.each wt wm
      have len3 := la3.len
      have many := fi.many
      have last : atI (ds.map V.ref) (-1) = some (.ref b) := by
        have : ds = ds.take i ++ [b] := by
          have e := List.take_succ (l := ds) (i := i)
          rw [hb, List.take_of_length_le (by omega)] at e
          exact e
        rw [this, List.map_append]
        exact atI_last _ _
      have d0 := fi.d0
      refine ⟨_, rfl, .inl ⟨rfl, _, SqL.of la3.at_⟩, _, rfl, _, rfl, l, _, -1, _, rfl, rfl, SqL.of la3.at_, last, _, rfl, _, rfl, b, kvs, ns, wt, d, lo, hi', rfl, .inl eb, hk, h1, h2, h3, by omega, by omega, by omega, by omega, by omega, by omega, by omega, fun c kvs' H4 s4 hc ec tc => ?_⟩
      have hcl : l ≠ c := ne_of_none la3.at_ hc
      have el4 := s4 _ _ la3.at_
      have hl3 : H3 l = some (.lst (ds.map V.ref)) := la3.at_
      refine ⟨l, ds.map V.ref, .ref c, rfl, rfl, el4, by rw [List.length_map]; omega, ?_⟩
      refine ⟨_, ds ++ [c], rfl, fun p o ep => ?_, by rw [List.map_append]; exact upd_same, by rw [List.length_append, len3]; rfl, fun k hk' => ?_⟩
      · rw [upd_ne (ne_of_none ep hl)]
        exact s4 _ _ (s3 _ _ ep)
      · by_cases e : k = i + 1
        · subst e
          refine ⟨c, kvs', ?_, (upd_ne hcl.symm).trans ec, ?_⟩
          · rw [List.getElem?_append_right (by omega), len3]; simp
          · have z : least (sumB kvs) wt d.toNat = tabP d.toNat ws (i + 1) := by
              show _ = least (fun t => (tabP d.toNat ws i t).isSome) (ws.getD i 0) d.toNat
              rw [tb.sum, getD_of hi]
            rw [← z]
            exact tc
        · obtain ⟨b', kvs2, g1, g2, g3⟩ := la3.tab k (by omega)
          have hbl : b' ≠ l := fun z => by rw [z, hl3] at g2; cases g2
          exact ⟨b', kvs2, by rw [List.getElem?_append_left (by omega)]; exact g1, (upd_ne hbl).trans (s4 _ _ g2), g3⟩
    · rintro σ3 H3 ⟨v, ds, e3, s3, la3⟩
      rw [List.length_map] at la3
      exact ⟨v, ds, e3, s3, la3⟩
end
end Mk
namespace Mk
open PySem L2 PyProof.Rows
abbrev sNumF : Stmt := top 27
def dotZ : List Int → List Int → Int
  | k :: ks, w :: ws => k * w + dotZ ks ws
  | _, _ => 0
section
variable {P : Program} {w : World} {K : PySem.W.Frag} {mg : Str → Option Value} {base : Heap}
abbrev nNumF : List Str := ["weights", "layers", "total", "numbers", "place", "number"]
theorem scNumF : FnScope nNumF ["weights", "layers", "total"] (defScope sNumF) := ⟨rfl, rfl, rfl, by decide +kernel, rfl, by decide +kernel, by decide +kernel⟩
def spNumF (K : PySem.W.Frag) : Sp := fun vs H Q _ => ∃ (a l : Addr) (ws : List Int) (ds : List Addr) (d total : Int), vs = [.ref a, .ref l, .int total] ∧ SqT K H a (ws.map V.int) ∧ Fine ws d ∧ LayersAt H l ds ws d.toNat ws.length ∧ (tabP d.toNat ws ws.length total).isSome = true ∧
  ∀ r ks H', Same H H' → H r = none → H' r = some (.lst (ks.map V.int)) → ks.length = ws.length → (∀ k ∈ ks, 0 ≤ k ∧ k ≤ d) → dotZ ks ws = total → Q (.ref r) H'
theorem ok_numF {f : Addr} {fd : FuncData} (F : Fun K "numbers_for" "numbers_for" sNumF f fd) (T : Tb mg) : FnOk P w K mg base CX0 1 f fd ["weights", "layers", "total"] (spNumF K) := by
  refine F.okQ scNumF (fun vs H Q E h => ?_) (fun cdv A outer s H vs Q E hr h => ?_)
  · obtain ⟨a, l, ws, ds, d, total, rfl, _⟩ := h
    rfl
  obtain ⟨a, l, ws, ds, d, total, rfl, hs, fi, la, ht, q⟩ := h
  have big : sizeLine = 16777216 := sizeLine_eq
  have many := fi.many
  have d0 := fi.d0
  refine ⟨_, (qss_cut (ps_setQ (i := 3) scNumF.nd rfl (Or.inl rfl) (q_lst qa_nil) (by rfl))
    (qss_cut (qs_for PassesOwn.never rfl (pi_range3 rfl T.range (pa_cons (pe_callB call_len_seq rfl T.len PySem.boot_len (pa_cons (pv 0) pa_nil)) (pa_cons pe_int (pa_cons (pe_un un_neg pe_int) pa_nil)))) (pg_name (i := 4) scNumF.nd rfl (Or.inl rfl))
      (qss_cut (ps_setQ (i := 5) scNumF.nd rfl (Or.inl rfl) (qe (pe_dget (hu_of hr) (q_ix ix_list (qv 1) (qv 4) (fun _ _ => rfl)).r (pv 2) (fun _ _ => rfl))) (by rfl))
      (qss_cut (qs_app (qv 3) (qv 5))
      (qss1 (qs (ps_aug (i := 2) scNumF.nd rfl (Or.inl rfl) (pe_op op_mul (q_ix ix_tup (qv 0) (q_op op_sub (qv 4) q_int) (fun _ _ => rfl)).r (pv 5)) ip_sub))))))
    (qss1 (qs_ret (qe (pe_revL (pv 3) (pe_un un_neg pe_int))))))), ?_⟩
  refine ⟨fun σ' H' => ∃ r, σ' = [some (.ref a), some (.ref l), some (.int total), some (.ref r), none, none] ∧ H r = none ∧ H' = upd H r (.lst []), ⟨by show 0 ≤ sizeLine; omega, fun r hr0 => ⟨r, rfl, hr0, rfl⟩⟩, ?_⟩
  rintro σ1 H1 ⟨r, e1, hr0, e2⟩
  rw [e1]
  have s1 : Same H H1 := by rw [e2]; exact same_new hr0 _
  have er1 : H1 r = some (.lst []) := by rw [e2]; exact upd_same
  let Pv : Nat → L2.St → Hp → Prop := fun i σ' H' => ∃ (v4 v5 : Option V) (t : Int) (js : List Int), σ' = [some (.ref a), some (.ref l), some (.int t), some (.ref r), v4, v5] ∧ Same H H' ∧ H' r = some (.lst (js.map V.int)) ∧ js.length = i ∧ (tabP d.toNat ws (ws.length - i) t).isSome = true ∧ (∀ k ∈ js, 0 ≤ k ∧ k ≤ d) ∧ t + dotZ js.reverse (ws.drop (ws.length - i)) = total
  refine ⟨fun σ' H' => Pv ws.length σ' H', ?_, ?_⟩
  rotate_left
  · rintro σ2 H2 ⟨v4, v5, t, js, e3, s2, er, hl, htb, hk, hd⟩
    rw [e3]
    refine ⟨_, rfl, 1, rfl, r, js.map V.int, rfl, rfl, SqL.of er, fun p hp => ?_⟩
    have t0 : t = 0 := by
      rw [Nat.sub_self] at htb
      by_cases e : t = 0
      · exact e
      · have z : tabP d.toNat ws 0 t = none := if_neg e
        rw [z] at htb; cases htb
    rw [t0, Nat.sub_self, List.drop_zero, Int.zero_add] at hd
    refine q p js.reverse _ (s2.trans (same_new hp _)) (none_of s2 hp) (by rw [List.map_reverse]; exact upd_same) (by rw [List.length_reverse, hl]) (fun k hk' => hk k (List.mem_reverse.mp hk')) hd
  refine ⟨_, rfl, a, ws.map V.int, rfl, .inr (hs.same s1), 1, rfl, (ws.length : Int), 0, -1, ws.length, by rw [List.length_map], ?_, for_rangeC Pv ⟨none, none, total, [], rfl, s1, er1, rfl, ht, (fun k h => nomatch h), ?_⟩ ?_ fun _ _ h => h⟩
  · have z := RgC.neg (i := (ws.length : Int)) (j := 0) (by omega) (by omega) (by omega) (by omega)
    rw [Int.sub_zero, Int.toNat_natCast] at z
    exact z
  · show total + dotZ [] _ = total
    cases ws.drop (ws.length - 0) <;> exact Int.add_zero _
  · rintro i σ3 H3 hi ⟨v4, v5, t, js, e3, s3, er, hl, htb, hk, hd⟩
    rw [e3]
    obtain ⟨p, hp⟩ : ∃ p, ws.length - i = p + 1 := ⟨ws.length - i - 1, by omega⟩
    have hp2 : ws.length - (i + 1) = p := by omega
    have eplace : (ws.length : Int) + (i : Int) * (-1) = ((p + 1 : Nat) : Int) := by omega
    rw [hp] at htb hd
    obtain ⟨j, hj⟩ := Option.isSome_iff_exists.mp htb
    obtain ⟨b, kvs, hb, eb, tb⟩ := la.tab (p + 1) (by omega)
    obtain ⟨wt, hw⟩ : ∃ wt, ws[p]? = some wt := ⟨_, List.getElem?_eq_getElem (by omega)⟩
    have hj2 : least (fun t => (tabP d.toNat ws p t).isSome) (ws.getD p 0) d.toNat t = some j := hj
    rw [getD_of hw, least_some] at hj2
    obtain ⟨g1, g2, _⟩ := hj2
    have wb := fi.each wt (List.mem_of_getElem? hw)
    have vt : valV kvs (.inl t) = some (.int (j : Int)) := by rw [tb.val, hj]; rfl
    have el : H3 l = some (.lst (ds.map V.ref)) := s3 _ _ la.at_
    have hlr : l ≠ r := ne_of_none la.at_ hr0
    refine ⟨fun σ' H' => σ' = [some (.ref a), some (.ref l), some (.int t), some (.ref r), some (.int ((p + 1 : Nat) : Int)), some (.int (j : Int))] ∧ H' = H3, ?_, ?_⟩
    · refine ⟨_, rfl, _, rfl, l, _, ((p + 1 : Nat) : Int), .ref b, rfl, by rw [eplace], SqL.of el, atI_nat (by rw [List.getElem?_map, hb]; rfl), _, rfl, b, _, rfl, .inl ⟨kvs, .inl t, .inl (s3 _ _ eb), rfl, vt.symm⟩, ?_, rfl⟩
      rw [eplace]; rfl
    · rintro σ4 H4 ⟨e4, e5⟩
      rw [e4, e5]
      refine ⟨fun σ' H' => σ' = [some (.ref a), some (.ref l), some (.int t), some (.ref r), some (.int ((p + 1 : Nat) : Int)), some (.int (j : Int))] ∧ H' = upd H3 r (.lst (js.map V.int ++ [.int (j : Int)])), ⟨_, rfl, .inl ⟨rfl, _, SqL.of er⟩, _, rfl, r, js.map V.int, _, rfl, rfl, er, by rw [List.length_map]; omega, rfl, rfl⟩, ?_⟩
      rintro σ5 H5 ⟨e6, e7⟩
      rw [e6, e7]
      have s5 : Same H (upd H3 r (.lst (js.map V.int ++ [.int (j : Int)]))) := fun c o ec => by rw [upd_ne (ne_of_none ec hr0)]; exact s3 c o ec
      refine ⟨_, rfl, _, rfl, _, rfl, ((p + 1 : Nat) : Int), 1, rfl, rfl, a, ws.map V.int, (p : Int), .int wt, rfl, by show V.int (((p + 1 : Nat) : Int) - 1) = V.int (p : Int); congr 1; omega, hs.same s5, atI_nat (by rw [List.getElem?_map, hw]; rfl), _, rfl, wt, (j : Int), rfl, rfl, .inl (by omega), t, wt * (j : Int), rfl, rfl, ?_⟩
      refine ⟨_, _, t - wt * (j : Int), js ++ [(j : Int)], rfl, s5, by rw [List.map_append]; exact upd_same, by rw [List.length_append, hl]; rfl, by rw [hp2]; exact g1, fun k hk' => ?_, ?_⟩
      · rcases List.mem_append.mp hk' with h | h
        · exact hk k h
        · rw [List.mem_singleton.mp h]; omega
      · rw [hp2, List.reverse_append]
        have hdr : ws.drop p = wt :: ws.drop (p + 1) := by
          rw [List.drop_eq_getElem_cons (by omega)]
          congr 1
          exact (List.getElem?_eq_some_iff.mp hw).2
        rw [hdr]
        show t - wt * (j : Int) + ((j : Int) * wt + dotZ js.reverse (ws.drop (p + 1))) = total
        rw [Int.mul_comm wt]
        omega
end
end Mk
namespace Mk
open PySem L2 PyProof.Rows
abbrev sNT : Stmt := inClass (top 6) 0
abbrev sCW : Stmt := top 30
abbrev sCWd : Stmt := top 31
section
variable {P : Program} {w : World} {K : PySem.W.Frag} {mg : Str → Option Value} {base : Heap}
theorem scNT : FnScope ["self", "cell"] ["self", "cell"] (defScope sNT) := ⟨rfl, rfl, rfl, by decide +kernel, rfl, by decide +kernel, by decide +kernel⟩
def spNT (K : PySem.W.Frag) (C : Addr) : Sp := fun vs H Q _ => ∃ (e : Addr) (y : V), vs = [.ref e, y] ∧ H e = some (XO e C none) ∧ XSet K C "cell" ∧ ∀ dx, H dx = none → dx ≠ e → Q .non (upd (upd H dx (.xd [("cell", y)])) e (XO e C (some dx)))
theorem ok_ntD {f C : Addr} {dV kV doc pm cdv ct oc : Value} {an od : Option Addr} {osl : Array (Option Value)} (lk : K.lookup f = some ⟨oc, od, .func (PySem.W.fnOf "__init__" "NoTone.__init__" (defArgs sNT) (defBody sNT) (defScope sNT) dV kV doc pm an cdv ct), osl⟩) (hcd : PySem.W.codeIn K cdv "NoTone.__init__" = true) :
    FnOk P w K mg base CX0 1 f (PySem.W.fnOf "__init__" "NoTone.__init__" (defArgs sNT) (defBody sNT) (defScope sNT) dV kV doc pm an cdv ct) ["self", "cell"] (spNT K C) := by
  refine fn_of lk hcd scNT (fun vs H Q E h => ?_) (fun A outer s H vs Q E hr h => ?_)
  · obtain ⟨e, y, rfl, _⟩ := h
    rfl
  obtain ⟨e, y, rfl, he, xs, q⟩ := h
  refine ⟨_, ((qss1 (qs_fldX (qv 0) (qv 1) rfl) : QSs (cxOf CX0 P w K mg base ["self", "cell"] "NoTone.__init__" (defScope sNT) f cdv A outer s H E).nox (defBody sNT) _).r).nox, ?_⟩
  exact ⟨_, rfl, _, rfl, e, C, rfl, he, xs, fun dx h1 h2 => q dx h1 h2⟩
abbrev nCW : List Str := ["weights", "by", "plus", "depth"]
theorem scCW : FnScope nCW nCW (defScope sCW) := ⟨rfl, rfl, rfl, by decide +kernel, rfl, by decide +kernel, by decide +kernel⟩
def weighOk (dw db dp : PyData) : Bool := weightsD dw 25 1000 && (inD db 0 100000 && inD dp (-65535) 65535)
def isNull (d : PyData) : Bool := match d with
  | .int i => decide (i = 0)
  | _ => false
def spCW (K : PySem.W.Frag) (CS CD CT : Addr) : Sp := fun vs H Q E => ∃ (vw vb vp vd : V) (dw db dp dd : PyData), vs = [vw, vb, vp, vd] ∧ Dq K H vw dw ∧ Dq K H vb db ∧ Dq K H vp dp ∧ Dq K H vd dd ∧
  (weighOk dw db dp = false → ∀ H', Same H H' → E (.ref CS) none H') ∧ (weighOk dw db dp = true → isNull db = true → ∀ H', Same H H' → E (.ref CD) none H') ∧
  (weighOk dw db dp = true → isNull db = false → inD dd 1 65535 = false → ∀ dx H', Same H H' → E (.ref CT) (some dx) H') ∧ (weighOk dw db dp = true → isNull db = false → inD dd 1 65535 = true → ∀ H', Same H H' → Q .non H')
theorem ok_cw {f gW gB gP gD gI CS CD CT : Addr} {fd dW dB dP dD dI : FuncData} {bm1 bm2 bmB : List Value} {B1 n1 i1 B2 n2 i2 B' newId initId : String} (F : Fun K "check_weighing" "check_weighing" sCW f fd) (C : Tc mg)
    (GW : FnOk P w K mg base CX0 3 gW dW ["thing", "most", "greatest"] (spWts K)) (bW : Binds K dW ["thing", "most", "greatest"] []) (kW : PySem.W.keepIn K (.ref gW) = true) (mW : mg "are_weights" = some (.ref gW))
    (GB : FnOk P w K mg base CX0 3 gB dB ["thing"] (spInG K 0 100000)) (bB : Binds K dB ["thing"] []) (kB : PySem.W.keepIn K (.ref gB) = true) (mB : mg "is_by" = some (.ref gB))
    (GP : FnOk P w K mg base CX0 3 gP dP ["thing"] (spInG K (-65535) 65535)) (bP : Binds K dP ["thing"] []) (kP : PySem.W.keepIn K (.ref gP) = true) (mP : mg "is_plus" = some (.ref gP))
    (GD : FnOk P w K mg base CX0 3 gD dD ["thing"] (spInG K 1 65535)) (bD : Binds K dD ["thing"] []) (kD : PySem.W.keepIn K (.ref gD) = true) (mD : mg "is_depth" = some (.ref gD))
    (FS : ExcBaseFacts B1 n1 i1 bm1) (qS : PySem.W.excIn K CS bm1 n1 = true) (mS : mg "NoStage" = some (.ref CS)) (FD : ExcBaseFacts B2 n2 i2 bm2) (qD : PySem.W.excIn K CD bm2 n2 = true) (mDi : mg "NoDivisor" = some (.ref CD))
    (GI : FnOk P w K mg base CX0 1 gI dI ["self", "cell"] (spNT K CT)) (bI : Binds K dI ["self", "cell"] [.none]) (FB : ExcBaseFacts B' newId initId bmB) (hq : excInI K CT bmB newId gI = true) (hf : PySem.W.typeIn K (.ref gI) = some (.type "function")) (mC : mg "NoTone" = some (.ref CT)) (xs : XSet K CT "cell") :
    FnOk P w K mg base (CXE P w) 4 f fd nCW (spCW K CS CD CT) := by
  refine F.okE scCW (fun vs H Q E h => ?_) (fun cdv A outer s H vs Q E hr h => ?_)
  · obtain ⟨vw, vb, vp, vd, dw, db, dp, dd, rfl, _⟩ := h
    rfl
  obtain ⟨vw, vb, vp, vd, dw, db, dp, dd, rfl, hw, hb, hp, hd, q1, q2, q3, q4⟩ := h
  have hr2 : Room 2 _ := hr.mono (by decide)
  have vN : Vals [V.non] [Value.none] := .cons rfl .nil
  obtain ⟨up, hup, rup⟩ := C.places
  obtain ⟨ug, hug, rug⟩ := C.weight
  refine ⟨_, (qss_cut (qs_if (qt (pt_not (PW.pt (pw_and (pt_val (pe_call GW hr rfl mW kW bW .nil pass0 (pa_cons (pv 0) (pa_cons (pe_glob rfl hup rup) (pa_cons (pe_glob rfl hug rug) pa_nil))))) (pw_and (pt_val (pe_call GB hr rfl mB kB bB .nil pass0 (pa_cons (pv 1) pa_nil))) (pw_and1 (pt_val (pe_call GP hr rfl mP kP bP .nil pass0 (pa_cons (pv 2) pa_nil))))))))) (qss1 (qs_raise FS qS rs_cx rfl mS rfl (qc q_str qa_nil))) qss_nil)
    (qss_cut (qs_if (qt (pt_cmpR op_eq (pv 1) pe_int (nomark _))) (qss1 (qs_raise FD qD rs_cx rfl mDi rfl (qc q_str qa_nil))) qss_nil)
    (qss1 (qs_if (qt (pt_not (pt_val (pe_call GD hr rfl mD kD bD .nil pass0 (pa_cons (pv 3) pa_nil))))) (qss1 (qs_raiseI0 FB hq hf GI hr2 bI vN rsD_cx rfl rfl mC rfl)) qss_nil)))), ?_⟩
  have nn : ∀ {c : Bool}, (!c) = true → c = false := fun {c} h => by cases c with | true => cases h | false => rfl
  have ny : ∀ {c : Bool}, ¬ (!c) = true → c = true := fun {c} h => by cases c with | true => rfl | false => exact absurd rfl h
  let S : L2.St := [some vw, some vb, some vp, some vd]
  have eW : ∀ {b : Bool}, weightsD dw 25 1000 = b → weighOk dw db dp = (b && (inD db 0 100000 && inD dp (-65535) 65535)) := fun {b} e => by unfold weighOk; rw [e]
  refine ⟨fun σ' H' => σ' = S ∧ Same H H' ∧ weighOk dw db dp = true, ?_, ?_⟩
  · refine ⟨_, rfl, vw, dw, 25, 1000, rfl, hw, fun H1 s1 => ⟨_, rfl, ite2 (fun c1 => ?_) (fun c1 => ?_)⟩⟩
    · obtain ⟨kb, hkb, _⟩ := Dq.ki (Dq.same s1 hb)
      obtain ⟨kp, hkp, _⟩ := Dq.ki (Dq.same s1 hp)
      have eb : inB vb 0 100000 = inD db 0 100000 := Dq.inB hb
      have ep : inB vp (-65535) 65535 = inD dp (-65535) 65535 := Dq.inB hp
      refine ⟨_, rfl, vb, kb, rfl, hkb, _, rfl, ite2 (fun c2 => ?_) (fun c2 => ?_)⟩
      · refine ⟨_, rfl, vp, kp, rfl, hkp, _, rfl, ite2 (fun c3 => ?_) (fun c3 => ?_)⟩
        · refine ⟨Nat.le_of_ble_eq_true rfl, q1 ?_ H1 s1⟩
          rw [eW c1, ← eb, ← ep, c2, nn c3]; rfl
        · refine ⟨rfl, s1, ?_⟩
          rw [eW c1, ← eb, ← ep, c2, ny c3]; rfl
      · refine ⟨Nat.le_of_ble_eq_true rfl, q1 ?_ H1 s1⟩
        rw [eW c1, ← eb, Bool.eq_false_iff.mpr c2]; rfl
    · refine ⟨Nat.le_of_ble_eq_true rfl, q1 ?_ H1 s1⟩
      rw [eW (Bool.eq_false_iff.mpr c1)]; rfl
  · rintro σ1 H1 ⟨e1, s1, ok1⟩
    rw [e1]
    have okB : inD db 0 100000 = true := by
      have z := ok1
      unfold weighOk at z
      rw [Bool.and_eq_true, Bool.and_eq_true] at z
      exact z.2.1
    obtain ⟨i, hi, i1, i2⟩ := inD_ex okB
    subst hi
    cases hb with
    | int i =>
    refine ⟨fun σ' H' => σ' = S ∧ Same H H' ∧ isNull (.int i) = false, ?_, ?_⟩
    · refine ⟨_, rfl, rfl, _, rfl, ite2 (fun c => ?_) (fun c => ?_)⟩
      · refine ⟨Nat.le_of_ble_eq_true rfl, q2 ok1 ?_ H1 s1⟩
        have c := of_decide_eq_true c
        cases c
        rfl
      · refine ⟨rfl, s1, decide_eq_false fun z => c ?_⟩
        subst z
        exact decide_eq_true rfl
    · rintro σ2 H2 ⟨e2, s2, nz⟩
      rw [e2]
      obtain ⟨kd, hkd, _⟩ := Dq.ki (Dq.same s2 hd)
      have ed : inB vd 1 65535 = inD dd 1 65535 := Dq.inB hd
      refine ⟨_, rfl, vd, kd, rfl, hkd, _, rfl, ite2 (fun c => ?_) (fun c => ?_)⟩
      · refine ⟨Nat.zero_le _, fun e he => ⟨e, .non, rfl, upd_same, xs, fun dx h1 h2 => ⟨rfl, dx, upd_same, q3 ok1 nz (by rw [← ed]; exact nn c) dx _ fun a o ha => ?_⟩⟩⟩
        have ha2 := s2 a o ha
        have n1 : a ≠ e := ne_of_none ha2 he
        have n2 : a ≠ dx := fun z => by
          subst z
          rw [upd_ne n1, ha2] at h1
          cases h1
        rw [drop_ne n1, upd_ne n1, upd_ne n2, upd_ne n1]
        exact ha2
      · exact q4 ok1 nz (by rw [← ed]; exact ny c) H2 s2
end
end Mk
namespace Mk
open PySem L2 PyProof.Rows
abbrev sWo : Stmt := top 34
section
variable {P : Program} {w : World} {K : PySem.W.Frag} {mg : Str → Option Value} {base : Heap}
abbrev nCWd : List Str := ["weights", "depth", "widest"]
theorem scCWd : FnScope nCWd nCWd (defScope sCWd) := ⟨rfl, rfl, rfl, by decide +kernel, rfl, by decide +kernel, by decide +kernel⟩
def spCWd (K : PySem.W.Frag) (CT : Addr) : Sp := fun vs H Q E => ∃ (a : Addr) (ws : List Int) (d wide : Int), vs = [.ref a, .int d, .int wide] ∧ SqT K H a (ws.map V.int) ∧ ws.length ≤ 1000 ∧ 0 ≤ d ∧ d ≤ 100000 ∧ (wide < widthZ ws d → ∀ H', Same H H' → E (.ref CT) none H') ∧ (¬ wide < widthZ ws d → ∀ H', Same H H' → Q .non H')
theorem ok_cwd {f g CT : Addr} {fd gd : FuncData} {bm1 : List Value} {B1 n1 i1 : String} (F : Fun K "check_width" "check_width" sCWd f fd) (G : FnOk P w K mg base CX0 1 g gd ["weights", "depth"] (spWidth K)) (bG : Binds K gd ["weights", "depth"] []) (kG : PySem.W.keepIn K (.ref g) = true) (mG : mg "width_of" = some (.ref g))
    (FS : ExcBaseFacts B1 n1 i1 bm1) (qS : PySem.W.excIn K CT bm1 n1 = true) (mS : mg "TooWide" = some (.ref CT)) : FnOk P w K mg base (CXE P w) 2 f fd nCWd (spCWd K CT) := by
  refine F.okE scCWd (fun vs H Q E h => ?_) (fun cdv A outer s H vs Q E hr h => ?_)
  · obtain ⟨a, ws, d, wide, rfl, _⟩ := h
    rfl
  obtain ⟨a, ws, d, wide, rfl, hs, hl, h1, h2, q1, q2⟩ := h
  refine ⟨_, (qss1 (qs_if (qt (pt_cmpR op_gt (pe_call G hr rfl mG kG bG .nil pass0 (pa_cons (pv 0) (pa_cons (pv 1) pa_nil))) (pv 2) (nomark _))) (qss1 (qs_raise FS qS rs_cx rfl mS rfl (qc q_str qa_nil))) qss_nil)), ?_⟩
  refine ⟨_, rfl, _, rfl, a, ws, d, rfl, hs, hl, h1, h2, fun H1 s1 => ⟨_, rfl, widthZ ws d, wide, rfl, rfl, _, rfl, ite2 (fun c => ?_) (fun c => ?_)⟩⟩
  · exact ⟨Nat.le_of_ble_eq_true rfl, q1 (of_decide_eq_true c) H1 s1⟩
  · exact q2 (fun z => c (decide_eq_true z)) H1 s1
abbrev nWo : List Str := ["weights", "by", "plus", "depth", "layers", "total", "error"]
theorem scWo : FnScope nWo ["weights", "by", "plus", "depth"] (defScope sWo) := ⟨rfl, rfl, rfl, by decide +kernel, rfl, by decide +kernel, by decide +kernel⟩
end
end Mk
namespace Mk
open PySem L2 PyProof.Rows
/-- the lambda of worst -/
def keyOf : Stmt → Expr
  | .Assign _ (.Call _ _ (k :: _) _) _ => k.value
  | _ => .Constant .none 0 ⟨0, 0, 0, 0⟩
def lamE : Expr := keyOf ((defBody sWo).getD 3 (.Pass ⟨0, 0, 0, 0⟩))
def lamPos : Pos := match lamE with
  | .Lambda _ _ _ p => p
  | _ => ⟨0, 0, 0, 0⟩
def lamScope : Scope := match lamE with
  | .Lambda _ _ sc _ => sc
  | _ => defScope sWo
abbrev lamQual : Str := "worst.<locals>.<lambda>"
theorem scLam : LamScope ["one", "by", "plus", "depth"] ["one"] lamScope := ⟨rfl, rfl, rfl, by decide +kernel, rfl, by decide +kernel, by decide +kernel, by decide +kernel⟩
theorem lam_kinds : ∀ q ∈ lamScope.names, q.2 = .free → (defScope sWo).names.lookup q.1 = some .cell ∨ (defScope sWo).names.lookup q.1 = some .free := by decide +kernel
/-- all is kept but the table at Pt -/
def SameP (Pt : Addr) (H H' : Hp) : Prop := ∀ b o, H b = some o → b ≠ Pt → H' b = some o
section
variable {P : Program} {w : World} {K : PySem.W.Frag} {mg : Str → Option Value} {base : Heap}
/-- weights, by, plus, depth that are a weighing: the greatest error in lowest terms, and numbers that have it -/
def spWo (K : PySem.W.Frag) (Pt : Addr) : Sp := fun vs H Q _ => ∃ (a : Addr) (ws : List Int) (b p d : Int), vs = [.ref a, .int b, .int p, .int d] ∧ SqT K H a (ws.map V.int) ∧ Fine ws d ∧ 0 < ws.length ∧ 0 < b ∧ b ≤ 100000 ∧ -65535 ≤ p ∧ p ≤ 65535 ∧ d ≤ 65535 ∧ TabO H Pt lamPos lamQual ∧
  ∀ r x y ks H' (e : Int), SameP Pt H H' → TabO H' Pt lamPos lamQual → H' r = some (.tup [.ref x, .ref y]) → H' x = some (.tup [.int (lowZ e b).1, .int (lowZ e b).2]) → H' y = some (.tup (ks.map V.int)) → ks.length = ws.length → (∀ k ∈ ks, 0 ≤ k ∧ k ≤ d) →
    errZ (dotZ ks ws) b p d = e → (∀ t, (tabP d.toNat ws ws.length t).isSome = true → errZ t b p d ≤ e) → Q (.ref r) H'
theorem keyBest_max (g : Int → Int) : ∀ (rest : List Int) (b : Int), keyBest g b rest ∈ b :: rest ∧ ∀ y ∈ b :: rest, g y ≤ g (keyBest g b rest)
  | [], b => ⟨List.mem_singleton.mpr rfl, fun y hy => by rw [List.mem_singleton.mp hy]; exact Int.le_refl _⟩
  | n :: rest, b => by
    by_cases c : g n > g b
    · have e : keyBest g b (n :: rest) = keyBest g n rest := by show keyBest g (if g n > g b then n else b) rest = _; rw [if_pos c]
      obtain ⟨h1, h2⟩ := keyBest_max g rest n
      rw [e]
      have h0 := h2 n List.mem_cons_self
      refine ⟨List.mem_cons_of_mem _ h1, fun y hy => ?_⟩
      rcases List.mem_cons.mp hy with rfl | hy
      · omega
      · exact h2 y hy
    · have e : keyBest g b (n :: rest) = keyBest g b rest := by show keyBest g (if g n > g b then n else b) rest = _; rw [if_neg c]
      obtain ⟨h1, h2⟩ := keyBest_max g rest b
      rw [e]
      have h0 := h2 b List.mem_cons_self
      refine ⟨?_, fun y hy => ?_⟩
      · rcases List.mem_cons.mp h1 with h | h
        · rw [h]; exact List.mem_cons_self
        · exact List.mem_cons_of_mem _ (List.mem_cons_of_mem _ h)
      · rcases List.mem_cons.mp hy with rfl | hy
        · exact h0
        · rcases List.mem_cons.mp hy with rfl | hy
          · omega
          · exact h2 y (List.mem_cons_of_mem _ hy)
theorem dqAll_ints {H : Hp} : ∀ ws : List Int, DqAll K H (ws.map V.int) (ws.map PyData.int)
  | [] => .nil
  | w :: ws => .cons (.int w) (dqAll_ints ws)
set_option maxHeartbeats 4000000 in
theorem ok_wo {f c Pt gC gWd gL gE gLo gN CS CD CT CW : Addr} {dC dWd dL dE dLo dN : FuncData} {kV doc pm ct oc : Value} {an od : Option Addr} {osl : Array (Option Value)} (lk : K.lookup f = some ⟨oc, od, .func (PySem.W.fnOf "worst" "worst" (defArgs sWo) (defBody sWo) (defScope sWo) .none kV doc pm an (.ref c) ct), osl⟩) (hcd : PySem.W.codeIn K (.ref c) "worst" = true)
    (hC : PySem.W.CodeHd base c Pt) (hB : Bm mg base) (T : Tb mg) (M : Tc mg) (hmax : mg "max" = none)
    (GC : FnOk P w K mg base (CXE P w) 4 gC dC nCW (spCW K CS CD CT)) (bC : Binds K dC nCW []) (kC : PySem.W.keepIn K (.ref gC) = true) (mC : mg "check_weighing" = some (.ref gC))
    (GW : FnOk P w K mg base (CXE P w) 2 gWd dWd nCWd (spCWd K CW)) (bW : Binds K dWd nCWd []) (kW : PySem.W.keepIn K (.ref gWd) = true) (mW : mg "check_width" = some (.ref gWd))
    (GL : FnOk P w K mg base CX0 3 gL dL ["weights", "depth"] (spLay K)) (bL : Binds K dL ["weights", "depth"] []) (kL : PySem.W.keepIn K (.ref gL) = true) (mL : mg "layered_sums" = some (.ref gL))
    (GE : FnOk P w K mg base CX0 3 gE dE ["total", "by", "plus", "depth"] spErr) (bE : Binds K dE ["total", "by", "plus", "depth"] []) (kE : PySem.W.keepIn K (.ref gE) = true) (mE : mg "error_of" = some (.ref gE))
    (GLo : FnOk P w K mg base CX0 1 gLo dLo ["top", "bottom"] spLow) (bLo : Binds K dLo ["top", "bottom"] []) (kLo : PySem.W.keepIn K (.ref gLo) = true) (mLo : mg "in_lowest_terms" = some (.ref gLo))
    (GN : FnOk P w K mg base CX0 1 gN dN ["weights", "layers", "total"] (spNumF K)) (bN : Binds K dN ["weights", "layers", "total"] []) (kN : PySem.W.keepIn K (.ref gN) = true) (mN : mg "numbers_for" = some (.ref gN)) :
    FnOk P w K mg base (CXE P w) 6 f (PySem.W.fnOf "worst" "worst" (defArgs sWo) (defBody sWo) (defScope sWo) .none kV doc pm an (.ref c) ct) ["weights", "by", "plus", "depth"] (spWo K Pt) := by
  refine fn_of lk hcd scWo (fun vs H Q E h => ?_) (fun A outer s H vs Q E hr h => ?_)
  · obtain ⟨a, ws, b, p, d, rfl, _⟩ := h
    rfl
  obtain ⟨a, ws, b, p, d, rfl, hs, fi, hne, b1, b2, p1, p2, d2, tO, q⟩ := h
  have hr4 : Room 4 _ := hr.mono (by decide)
  have hr3 : Room 3 _ := hr.mono (by decide)
  have hr2 : Room 2 _ := hr.mono (by decide)
  have hr1 : Room 1 _ := hr.mono (by decide)
  obtain ⟨uw, huw, ruw⟩ := M.widest
  have body : ∀ t, QSs (cxOf (CXE P w) P w K mg base nWo "worst" (defScope sWo) f (.ref c) A outer s H E) (defBody sWo) t → t { nx := fun _ H' => Q .non H', rt := Q } (L2.start nWo [.ref a, .int b, .int p, .int d]) H →
      ∃ t, PSs (cxOf (CXE P w) P w K mg base nWo "worst" (defScope sWo) f (.ref c) A outer s H E) (defBody sWo) t ∧ t { nx := fun _ H' => Q .non H', rt := Q } (L2.start nWo [.ref a, .int b, .int p, .int d]) H := fun t h1 h2 => ⟨t, h1.r, h2⟩
  refine body _ (qss_cut (qs (ps_expr (pe_call GC hr4 rfl mC kC bC .nil (pass_cx fun _ _ _ h => h) (pa_cons (pv 0) (pa_cons (pv 1) (pa_cons (pv 2) (pa_cons (pv 3) pa_nil))))) (sw_no rfl)))
    (qss_cut (qs (ps_expr (pe_call GW hr2 rfl mW kW bW .nil (pass_cx fun _ _ _ h => h) (pa_cons (pv 0) (pa_cons (pv 3) (pa_cons (pe_glob rfl huw ruw) pa_nil)))) (sw_no rfl)))
    (qss_cut (ps_setQ (i := 4) scWo.nd rfl (Or.inl rfl) (qe (pe_call GL hr3 rfl mL kL bL .nil pass0 (pa_cons (pv 0) (pa_cons (pv 3) pa_nil)))) (by rfl))
    (qss_cut (ps_setQ (i := 5) scWo.nd rfl (Or.inl rfl) (qe (pe_maxK rfl rfl hmax (pe_callTy (call_listD rfl) rfl T.list bt_list (pa_cons (q_ix ix_list (qv 4) (q_un un_neg q_int) (fun _ _ => rfl)).r pa_nil)) (pe_lam rfl hC hB rfl (fun q hq hf => lam_kinds q hq hf)))) (by rfl))
    (qss_cut (ps_setQ (i := 6) scWo.nd rfl (Or.inl rfl) (qe (pe_call GLo hr1 rfl mLo kLo bLo .nil pass0 (pa_cons (pe_call GE hr3 rfl mE kE bE .nil pass0 (pa_cons (pv 5) (pa_cons (pv 1) (pa_cons (pv 2) (pa_cons (pv 3) pa_nil))))) (pa_cons (pv 1) pa_nil)))) (by rfl))
    (qss1 (qs_ret (q_tup (qc (qv 6) (qc (qe (pe_callTy call_tuple_of rfl T.tuple bt_tuple (pa_cons (pe_call GN hr1 rfl mN kN bN .nil pass0 (pa_cons (pv 0) (pa_cons (pv 4) (pa_cons (pv 5) pa_nil)))) pa_nil))) qa_nil)))))))))) ?_
  have d0 := fi.d0
  have many := fi.many
  let S : Option V → Option V → Option V → L2.St := fun x y z => [some (.ref a), some (.int b), some (.int p), some (.int d), x, y, z]
  have okw : weighOk (.tuple (ws.map PyData.int)) (.int b) (.int p) = true := by
    unfold weighOk weightsD
    have e1 : isTupD (.tuple (ws.map PyData.int)) 1 25 = true := by
      show (decide _ && decide _) = true
      rw [List.length_map]
      rw [decide_eq_true (by omega), decide_eq_true (by omega)]; rfl
    have e2 : (itemsD (.tuple (ws.map PyData.int))).all (inD · (-1000) 1000) = true := by
      rw [List.all_eq_true]
      intro x hx
      obtain ⟨y, hy, rfl⟩ := List.mem_map.mp (show x ∈ ws.map PyData.int from hx)
      have := fi.each y hy
      show (decide _ && decide _) = true
      rw [decide_eq_true (by omega), decide_eq_true (by omega)]; rfl
    rw [e1, e2]
    show (true && true && ((decide _ && decide _) && (decide _ && decide _))) = true
    rw [decide_eq_true (by omega), decide_eq_true (by omega), decide_eq_true (by omega), decide_eq_true (by omega)]; rfl
  have okd : inD (.int d) 1 65535 = true := by
    show (decide _ && decide _) = true
    rw [decide_eq_true (by omega), decide_eq_true (by omega)]; rfl
  have okn : isNull (.int b) = false := decide_eq_false (by omega)
  refine ⟨fun σ' H' => σ' = S none none none ∧ Same H H', ⟨_, rfl, _, rfl, _, rfl, _, rfl, .ref a, .int b, .int p, .int d, .tuple (ws.map PyData.int), .int b, .int p, .int d, rfl, .tup hs (by rw [List.length_map]; omega) (dqAll_ints ws), .int b, .int p, .int d, (fun z => by rw [okw] at z; cases z), (fun _ z => by rw [okn] at z; cases z), (fun _ _ z => by rw [okd] at z; cases z), fun _ _ _ H' s' => ⟨rfl, s'⟩⟩, ?_⟩
  rintro σ1 H1 ⟨e1, s1⟩
  rw [e1]
  refine ⟨fun σ' H' => σ' = S none none none ∧ Same H H', ⟨_, rfl, _, rfl, a, ws, d, 3000, rfl, hs.same s1, by omega, by omega, by omega, fun z => absurd fi.wide (by omega), fun _ H' s' => ⟨rfl, s1.trans s'⟩⟩, ?_⟩
  rintro σ2 H2 ⟨e2, s2⟩
  rw [e2]
  refine ⟨fun σ' H' => ∃ l ds, σ' = S (some (.ref l)) none none ∧ Same H H' ∧ H2 l = none ∧ LayersAt H' l ds ws d.toNat ws.length, ⟨_, rfl, _, rfl, a, ws, d, rfl, hs.same s2, fi, fun l ds H' s' hl la => ⟨l, ds, rfl, s2.trans s', hl, la⟩⟩, ?_⟩
  rintro σ3 H3 ⟨l, ds, e3, s3, hl, la⟩
  rw [e3]
  have tO3 : TabO H3 Pt lamPos lamQual := by
    rcases tO with z | ⟨c', z1, z2⟩
    · exact .inl (s3 _ _ z)
    · exact .inr ⟨c', s3 _ _ z1, s3 _ _ z2⟩
  obtain ⟨ps, ePt⟩ : ∃ ps, H3 Pt = some (.tbl ps) := by
    rcases tO3 with z | ⟨c', z1, _⟩
    · exact ⟨_, z⟩
    · exact ⟨_, z1⟩
  obtain ⟨b9, kvs, hb9, eb9, tb⟩ := la.tab ws.length (Nat.le_refl _)
  obtain ⟨ns, hk, hn⟩ := tb.keys
  have nne : ns ≠ [] := fun e => by
    have z := tb.val 0
    rw [tab_zero] at z
    rw [e] at hk
    have : kvs = [] := List.map_eq_nil_iff.mp hk
    rw [this] at z
    cases z
  have inNs : ∀ t, (tabP d.toNat ws ws.length t).isSome = true → t ∈ ns := fun t ht => sum_in hk (by rw [tb.sum]; exact ht)
  obtain ⟨b0, rest, ens⟩ : ∃ b0 rest, ns = b0 :: rest := List.exists_cons_of_ne_nil nne
  have last : atI (ds.map V.ref) (-1) = some (.ref b9) := by
    have : ds = ds.take ws.length ++ [b9] := by
      have e := List.take_succ (l := ds) (i := ws.length)
      have := la.len
      rw [hb9, List.take_of_length_le (by omega)] at e
      exact e
    rw [this, List.map_append]
    exact atI_last _ _
  let g : Int → Int := fun t => errZ t b p d
  obtain ⟨km1, km2⟩ := keyBest_max g rest b0
  rw [← ens] at km1 km2
  let tot := keyBest g b0 rest
  refine ⟨fun σ' H' => σ' = S (some (.ref l)) (some (.int tot)) none ∧ SameP Pt H3 H' ∧ TabO H' Pt lamPos lamQual, ?_, ?_⟩
  · refine ⟨_, rfl, _, rfl, l, _, -1, _, rfl, rfl, SqL.of la.at_, last, b9, kvs, rfl, .inl eb9, fun lk hlk => ⟨?_, fun f9 H5 LN => ⟨lk, b0, rest, f9, g, rfl, rfl, ?_, fun n hnn => ?_, rfl, ?_, LN.tab⟩⟩⟩
    · rcases tO3 with z | ⟨c', z1, z2⟩
      · exact .inl (same_new hlk _ _ _ z)
      · exact .inr ⟨c', same_new hlk _ _ _ z1, same_new hlk _ _ _ z2⟩
    · refine LN.old lk _ ?_ (fun z => by rw [z, ePt] at hlk; cases hlk)
      rw [← ens, ← hk]
      exact upd_same
    · intro pins s' u E' I ru
      obtain ⟨cl, c', CA, ef, ec⟩ := LN.fn
      let m : Str → Option V := fun x => if x = "by" then some (.int b) else if x = "plus" then some (.int p) else if x = "depth" then some (.int d) else none
      have hrA : Room 4 (A.deeper (envOfC "worst" (defScope sWo) s.heap.objs.size f (.ref c))).in1 := hr.in1
      refine wpAny_mono (lam_call (k := 3) (N := ["one", "by", "plus", "depth"]) (ps := ["one"]) (vs := [.int n]) (m := m) (Q := fun v H' => v = .int (g n) ∧ H' = H5) I I.ok.frames hrA scLam CA ef ec (fun _ _ => rfl) rfl (.cons ru .nil) (fun x v hx => ?_) (pe_call GE (hrA.deeper _) rfl mE kE bE .nil pass0 (pa_cons (pv 0) (pa_cons (pv 1) (pa_cons (pv 2) (pa_cons (pv 3) pa_nil))))) ⟨_, rfl, _, rfl, _, rfl, _, rfl, n, b, p, d, rfl, b1, b2, rfl, rfl⟩) (fun v s2 hv => ?_) fun _ _ z => z
      · show ((defScope sWo).names.lookup x = some .cell ∨ (defScope sWo).names.lookup x = some .free) ∧ ∃ i : Nat, nWo[i]? = some x ∧ (S (some (.ref l)) none none)[i]? = some (some v)
        have hx : (if x = "by" then some (V.int b) else if x = "plus" then some (.int p) else if x = "depth" then some (.int d) else none) = some v := hx
        by_cases x1 : x = "by"
        · rw [if_pos x1] at hx; cases hx; subst x1
          exact ⟨.inl (by decide +kernel), 1, rfl, rfl⟩
        · rw [if_neg x1] at hx
          by_cases x2 : x = "plus"
          · rw [if_pos x2] at hx; cases hx; subst x2
            exact ⟨.inl (by decide +kernel), 2, rfl, rfl⟩
          · rw [if_neg x2] at hx
            by_cases x3 : x = "depth"
            · rw [if_pos x3] at hx; cases hx; subst x3
              exact ⟨.inl (by decide +kernel), 3, rfl, rfl⟩
            · rw [if_neg x3] at hx; cases hx
      · obtain ⟨v', H', I', rv, ev, eH⟩ := hv
        subst ev; subst eH
        exact ⟨rv, I'⟩
    · intro c o ec hc
      exact LN.old c o (same_new hlk _ _ _ ec) hc
  · rintro σ4 H4 ⟨e4, s4, tO4⟩
    rw [e4]
    have nePt : ∀ {c : Addr} {xs : List V}, H3 c = some (.lst xs) → c ≠ Pt := fun {c xs} h z => by rw [z, ePt] at h; cases h
    have neD : ∀ {c : Addr} {kv : List (Key × V)}, H3 c = some (.dK kv) → c ≠ Pt := fun {c kv} h z => by rw [z, ePt] at h; cases h
    have la4 : LayersAt H4 l ds ws d.toNat ws.length := ⟨s4 _ _ la.at_ (nePt la.at_), la.len, fun k hk' => by
      obtain ⟨b', kv, z1, z2, z3⟩ := la.tab k hk'
      exact ⟨b', kv, z1, s4 _ _ z2 (neD z2), z3⟩⟩
    have sP : SameP Pt H H4 := fun c o ec hc => s4 c o (s3 c o ec) hc
    obtain ⟨psH, ePtH⟩ : ∃ ps, H Pt = some (.tbl ps) := by
      rcases tO with z | ⟨c', z1, _⟩
      · exact ⟨_, z⟩
      · exact ⟨_, z1⟩
    have hs4 : SqT K H4 a (ws.map V.int) := by
      rcases hs with h | h
      · refine .inl ?_
        rcases h with h | ⟨o, h⟩
        · exact .inl (sP _ _ h (fun z => by rw [z, ePtH] at h; cases h))
        · exact .inr ⟨o, sP _ _ h (fun z => by rw [z, ePtH] at h; cases h)⟩
      · exact .inr h
    have eNN : 0 ≤ errZ tot b p d := absZ_nonneg _
    refine ⟨fun σ' H' => ∃ x, σ' = S (some (.ref l)) (some (.int tot)) (some (.ref x)) ∧ Same H4 H' ∧ H' x = some (.tup [.int (lowZ (errZ tot b p d) b).1, .int (lowZ (errZ tot b p d) b).2]), ?_, ?_⟩
    · exact ⟨_, rfl, _, rfl, _, rfl, _, rfl, tot, b, p, d, rfl, b1, b2, _, rfl, errZ tot b p d, b, rfl, eNN, b1, b2, fun x hx => ⟨x, rfl, same_new hx _, upd_same⟩⟩
    · rintro σ5 H5 ⟨x, e5, s5, ex⟩
      rw [e5]
      have la5 : LayersAt H5 l ds ws d.toNat ws.length := ⟨s5 _ _ la4.at_, la4.len, fun k hk' => by
        obtain ⟨b', kv, z1, z2, z3⟩ := la4.tab k hk'
        exact ⟨b', kv, z1, s5 _ _ z2, z3⟩⟩
      refine ⟨_, rfl, _, rfl, _, rfl, _, rfl, a, l, ws, ds, d, tot, rfl, hs4.same s5, fi, la5, hn tot km1, fun r ks H6 s6 hr6 er hl6 hk6 hd6 => ⟨r, ks.map V.int, rfl, .inl ⟨SqL.of er, fun y hy => ?_⟩⟩⟩
      refine ⟨by show 2 ≤ sizeLine; decide, fun rr hrr => ?_⟩
      have s7 := (s6.trans (same_new hy (.tup (ks.map V.int)))).trans (same_new hrr (.tup [.ref x, .ref y]))
      have hry : y ≠ rr := ne_of_none upd_same hrr
      refine q rr x y ks _ (errZ tot b p d) (fun c o ec hc => s7 _ _ (s5 _ _ (sP c o ec hc))) ?_ upd_same (s7 _ _ ex) ((upd_ne hry).trans upd_same) hl6 hk6 (by rw [hd6]) (fun t ht => km2 t (inNs t ht))
      rcases tO4 with z | ⟨c', z1, z2⟩
      · exact .inl (s7 _ _ (s5 _ _ z))
      · exact .inr ⟨c', s7 _ _ (s5 _ _ z1), s7 _ _ (s5 _ _ z2)⟩
end
end Mk
namespace Mk
open PySem L2 PyProof.Rows
abbrev sLHe : Stmt := top 39
abbrev sLRo : Stmt := top 40
abbrev sLGa : Stmt := top 43
abbrev sLLo : Stmt := top 44
section
variable {P : Program} {w : World} {K : PySem.W.Frag} {mg : Str → Option Value} {base : Heap}
abbrev nLLo : List Str := ["_law_top", "_law_under", "_law_one", "_law_other"]
theorem scLLo : FnScope nLLo ["_law_top", "_law_under"] (defScope sLLo) := ⟨rfl, rfl, rfl, by decide +kernel, rfl, by decide +kernel, by decide +kernel⟩
theorem ok_llo {f : Addr} {fd : FuncData} (F : Fun K "_law_low" "_law_low" sLLo f fd) : FnOk P w K mg base CX0 1 f fd ["_law_top", "_law_under"] spLow := by
  refine F.okQ scLLo (fun vs H Q E h => ?_) (fun cdv A outer s H vs Q E hr h => ?_)
  · obtain ⟨t, b, rfl, _⟩ := h
    rfl
  obtain ⟨t, b, rfl, h1, h2, h3, q⟩ := h
  refine ⟨_, (qss_cut (qs (ps_par (i := 2) (j := 3) (by rfl) scLLo.nd rfl rfl (by decide) rfl rfl (pa_cons (pv 0) (pa_cons (pv 1) pa_nil)) (by rfl)))
    (qss_cut (qs_while PassesOwn.never (qt (pt_cmpR op_gt (pv 3) pe_int (nomark _))) (qss1 (qs (ps_par (i := 2) (j := 3) (by rfl) scLLo.nd rfl rfl (by decide) rfl rfl (pa_cons (pv 3) (pa_cons (pe_op op_mod (pv 2) (pv 3)) pa_nil)) (by rfl)))))
    (qss1 (qs_ret (q_tup (qc (qe (pe_op op_fdiv (pv 0) (pv 2))) (qc (qe (pe_op op_fdiv (pv 1) (pv 2))) qa_nil))))))), ?_⟩
  let S : Int → Int → L2.St := fun a c => [some (.int t), some (.int b), some (.int a), some (.int c)]
  let g : Nat := Nat.gcd b.toNat t.toNat
  have gpos : 0 < g := Nat.gcd_pos_of_pos_left _ (by omega)
  have gle : (g : Int) ≤ b := by
    have := Nat.le_of_dvd (by omega : 0 < b.toNat) (Nat.gcd_dvd_left b.toNat t.toNat)
    show ((Nat.gcd b.toNat t.toNat : Nat) : Int) ≤ b
    omega
  refine ⟨fun σ' H' => σ' = S t b ∧ H' = H, ⟨_, rfl, _, rfl, _, _, rfl, rfl, rfl⟩, ?_⟩
  rintro σ1 H1 ⟨e1, e2⟩
  rw [e1, e2]
  refine ⟨fun σ' H' => σ' = S g 0 ∧ H' = H, ⟨fun m σ' H' => ∃ a c : Int, H' = H ∧ σ' = S a c ∧ 0 ≤ a ∧ 0 ≤ c ∧ m = c.toNat ∧ Nat.gcd a.toNat c.toNat = g, ⟨_, t, b, rfl, rfl, h1, by omega, rfl, Nat.gcd_comm _ _⟩, ?_⟩, ?_⟩
  · rintro m σ1 H1 ⟨a, c, e1, e2, ha, hc, rfl, hg⟩
    rw [e1, e2]
    refine ⟨_, rfl, c, 0, rfl, rfl, _, rfl, ?_⟩
    by_cases e : c = 0
    · subst e
      have ea : a = (g : Int) := by
        rw [show (0 : Int).toNat = 0 from rfl, Nat.gcd_zero_right] at hg
        omega
      exact iteF ⟨by rw [ea], rfl⟩
    · have hc' : 0 < c := by omega
      rw [decide_eq_true hc']
      refine iteT ⟨fun σ' H' => σ' = S c (a % c) ∧ H' = H, ?_, ⟨_, rfl, _, rfl, _, rfl, a, c, rfl, rfl, hc', _, _, rfl, rfl, rfl⟩⟩
      rintro σ1 H1 ⟨e1, e2⟩
      have m1 := Int.emod_nonneg a (by omega : c ≠ 0)
      have m2 := Int.emod_lt_of_pos a hc'
      exact ⟨(a % c).toNat, by omega, c, a % c, e2, e1, by omega, m1, rfl, by rw [gcd_step ha hc']; exact hg⟩
  · rintro σ1 H1 ⟨e1, e2⟩
    rw [e1, e2]
    exact ⟨_, rfl, _, rfl, t, g, rfl, rfl, ⟨by omega, by omega⟩, _, rfl, _, rfl, b, g, rfl, rfl, ⟨by omega, by omega⟩, by show 2 ≤ sizeLine; decide, fun p hp => q p hp⟩
abbrev nLHe : List Str := ["_law_number", "_law_deep"]
theorem scLHe : FnScope nLHe nLHe (defScope sLHe) := ⟨rfl, rfl, rfl, by decide +kernel, rfl, by decide +kernel, by decide +kernel⟩
def spLHe : Sp := fun vs H Q _ => ∃ n d : Int, vs = [.int n, .int d] ∧ 0 ≤ d ∧ Q (.int (heldZ n d)) H
theorem ok_lhe {f : Addr} {fd : FuncData} (F : Fun K "_law_held" "_law_held" sLHe f fd) : FnOk P w K mg base CX0 1 f fd nLHe spLHe := by
  refine F.okQ scLHe (fun vs H Q E h => ?_) (fun cdv A outer s H vs Q E hr h => ?_)
  · obtain ⟨n, d, rfl, _⟩ := h
    rfl
  obtain ⟨n, d, rfl, h1, q⟩ := h
  refine ⟨_, (qss1 (qs_ret (q_ifx (qt (pt_cmpR op_lt (pv 0) pe_int (nomark _))) q_int (q_ifx (qt (pt_cmpR op_gt (pv 0) (pv 1) (nomark _))) (qv 1) (qv 0))))), ?_⟩
  refine ⟨_, rfl, n, 0, rfl, rfl, _, rfl, ite2 (fun c => ?_) (fun c => ?_)⟩
  · have c : n < 0 := of_decide_eq_true c
    have e : heldZ n d = 0 := by unfold heldZ; rw [if_pos (by omega : (0 : Int) > n), if_neg (by omega)]
    rw [e] at q; exact q
  · have c : ¬ n < 0 := fun z => c (decide_eq_true z)
    refine ⟨_, rfl, _, rfl, n, d, rfl, rfl, _, rfl, ite2 (fun c2 => ?_) (fun c2 => ?_)⟩
    · have c2 : d < n := of_decide_eq_true c2
      have e : heldZ n d = d := by unfold heldZ; rw [if_neg (by omega : ¬ (0 : Int) > n), if_pos c2]
      rw [e] at q; exact ⟨_, rfl, q⟩
    · have c2 : ¬ d < n := fun z => c2 (decide_eq_true z)
      have e : heldZ n d = n := by unfold heldZ; rw [if_neg (by omega : ¬ (0 : Int) > n), if_neg c2]
      rw [e] at q; exact ⟨_, rfl, q⟩
abbrev nLRo : List Str := ["_law_total", "_law_under", "_law_extra", "_law_deep"]
theorem scLRo : FnScope nLRo nLRo (defScope sLRo) := ⟨rfl, rfl, rfl, by decide +kernel, rfl, by decide +kernel, by decide +kernel⟩
def spLRo : Sp := fun vs H Q _ => ∃ t b p d : Int, vs = [.int t, .int b, .int p, .int d] ∧ 0 < b ∧ b ≤ 100000 ∧ 0 ≤ d ∧ Q (.int (roundedZ t b p d)) H
theorem ok_lro {f g : Addr} {fd gd : FuncData} (F : Fun K "_law_round" "_law_round" sLRo f fd) (G : FnOk P w K mg base CX0 1 g gd nLHe spLHe) (bG : Binds K gd nLHe []) (kG : PySem.W.keepIn K (.ref g) = true) (mG : mg "_law_held" = some (.ref g)) : FnOk P w K mg base CX0 2 f fd nLRo spLRo := by
  refine F.ok scLRo (fun vs H Q E h => ?_) (fun cdv A outer s H vs Q E hr h => ?_)
  · obtain ⟨t, b, p, d, rfl, _⟩ := h
    rfl
  obtain ⟨t, b, p, d, rfl, h1, h2, h3, q⟩ := h
  refine ⟨_, pss_one (ps_ret (pe_call G hr rfl mG kG bG .nil pass0 (pa_cons (pe_op op_add (pe_op op_fdiv (pe_op op_add (pe_op op_mul pe_int (pv 0)) (pv 1)) (pe_op op_mul pe_int (pv 1))) (pv 2)) (pa_cons (pv 3) pa_nil)))), ?_⟩
  refine ⟨_, rfl, 2, t, rfl, rfl, .inl (by omega), _, rfl, _, b, rfl, rfl, _, rfl, 2, b, rfl, rfl, .inl (by omega), _, _, rfl, rfl, ⟨by omega, by omega⟩, _, rfl, _, p, rfl, rfl, _, rfl, _, d, rfl, h3, q⟩
theorem scLGa : FnScope nLRo nLRo (defScope sLGa) := ⟨rfl, rfl, rfl, by decide +kernel, rfl, by decide +kernel, by decide +kernel⟩
def spLGa : Sp := fun vs H Q _ => ∃ t b p d : Int, vs = [.int t, .int b, .int p, .int d] ∧ 0 < b ∧ b ≤ 100000 ∧ 0 ≤ d ∧ d ≤ 65535 ∧ Q (.int (errZ t b p d)) H
theorem ok_lga {f gR gH : Addr} {fd dR dH : FuncData} (F : Fun K "_law_gap" "_law_gap" sLGa f fd) (habs : mg "abs" = none) (GR : FnOk P w K mg base CX0 2 gR dR nLRo spLRo) (bR : Binds K dR nLRo []) (kR : PySem.W.keepIn K (.ref gR) = true) (mR : mg "_law_round" = some (.ref gR))
    (GH : FnOk P w K mg base CX0 1 gH dH nLHe spLHe) (bH : Binds K dH nLHe []) (kH : PySem.W.keepIn K (.ref gH) = true) (mH : mg "_law_held" = some (.ref gH)) : FnOk P w K mg base CX0 3 f fd nLRo spLGa := by
  refine F.ok scLGa (fun vs H Q E h => ?_) (fun cdv A outer s H vs Q E hr h => ?_)
  · obtain ⟨t, b, p, d, rfl, _⟩ := h
    rfl
  obtain ⟨t, b, p, d, rfl, h1, h2, h3, h4, q⟩ := h
  have hr1 : Room 1 _ := hr.mono (by decide)
  refine ⟨_, pss_one (ps_ret (pe_callB call_abs rfl habs bf_abs (pa_cons (pe_op op_sub (pe_op op_mul (pe_call GR hr rfl mR kR bR .nil pass0 (pa_cons (pv 0) (pa_cons (pv 1) (pa_cons (pv 2) (pa_cons (pv 3) pa_nil))))) (pv 1))
    (pe_call GH hr1 rfl mH kH bH .nil pass0 (pa_cons (pe_op op_add (pv 0) (pe_op op_mul (pv 2) (pv 1))) (pa_cons (pe_op op_mul (pv 3) (pv 1)) pa_nil)))) pa_nil))), ?_⟩
  have e : errZ t b p d = absZ (roundedZ t b p d * b - heldZ (t + p * b) (d * b)) := by unfold errZ; rw [Int.mul_comm b, Int.mul_comm b p, Int.mul_comm b d]
  rw [e] at q
  refine ⟨_, rfl, _, rfl, _, rfl, _, rfl, t, b, p, d, rfl, h1, h2, h3, _, rfl, roundedZ t b p d, b, rfl, rfl, .inr (by omega), _, rfl, _, rfl, _, rfl, p, b, rfl, rfl, .inr (by omega), t, p * b, rfl, rfl, _, rfl, _, rfl, d, b, rfl, rfl, .inr (by omega), _, _, rfl, Int.mul_nonneg h3 (by omega), roundedZ t b p d * b, heldZ (t + p * b) (d * b), rfl, rfl, _, rfl, q⟩
end
end Mk
namespace Mk
open PySem L2 PyProof.Rows
abbrev sLPl : Stmt := top 38
/-- of what there was only the pen is another one -/
structure Pen (p c : Addr) (ns : List Int) (i i' : Int) (H H' : Hp) : Prop where
  old : ∀ b o, H b = some o → b ≠ p → H' b = some o
  pen : ∃ j', PenAt H' p c ns i' j'
  up : i ≤ i'
theorem Pen.draw {p c : Addr} {ns : List Int} {i j : Int} {H : Hp} (h : PenAt H p c ns i j) (i' j' : Int) (h1 : i ≤ i') (h2 : i' ≤ 1000000) (h3 : i' ≤ i + 1) : PenAt (upd H p (.lst [.ref c, .int i', .int j'])) p c ns i' j' ∧ ∀ b o, H b = some o → b ≠ p → (upd H p (.lst [.ref c, .int i', .int j'])) b = some o := by
  have ne : c ≠ p ∨ c = p := by by_cases e : c = p; exact .inr e; exact .inl e
  refine ⟨⟨upd_same, ?_, by have := h.low; omega, h2⟩, fun b o e n => (upd_ne n).trans e⟩
  rcases ne with ne | ne
  · exact (upd_ne ne).trans h.cells
  · exfalso
    have e1 := h.at_
    have e2 := h.cells
    rw [ne, e1] at e2
    cases ns with
    | nil => cases e2
    | cons n r => cases e2
section
variable {P : Program} {w : World} {K : PySem.W.Frag} {mg : Str → Option Value} {base : Heap}
abbrev nLPl : List Str := ["_law_pen_here", "_law_deep"]
theorem scLPl : FnScope nLPl nLPl (defScope sLPl) := ⟨rfl, rfl, rfl, by decide +kernel, rfl, by decide +kernel, by decide +kernel⟩
def spLPl : Sp := fun vs H Q _ => ∃ (p c : Addr) (ns : List Int) (i j d : Int), vs = [.ref p, .int d] ∧ PenAt H p c ns i j ∧ i < 999000 ∧ 0 < d ∧ d ≤ 255 ∧
  ∀ (r i' : Int) (H' : Hp), -255 ≤ r → r ≤ 255 → i' ≤ i + 3 → Pen p c ns i i' H H' → Q (.int r) H'
theorem ok_lpl {f g : Addr} {fd gd : FuncData} (F : Fun K "_law_plus" "_law_plus" sLPl f fd) (G : FnOk P w K mg base CX0 1 g gd ["_law_pen_here", "_law_many"] (spDraw 1000000)) (bG : Binds K gd ["_law_pen_here", "_law_many"] []) (kG : PySem.W.keepIn K (.ref g) = true) (mG : mg "_law_draw" = some (.ref g)) : FnOk P w K mg base CX0 2 f fd nLPl spLPl := by
  refine F.okQ scLPl (fun vs H Q E h => ?_) (fun cdv A outer s H vs Q E hr h => ?_)
  · obtain ⟨p, c, ns, i, j, d, rfl, _⟩ := h
    rfl
  obtain ⟨p, c, ns, i, j, d, rfl, hp, hi, d0, d1, q⟩ := h
  refine ⟨_, (qss1 (qs_ret (q_ix ix_list (q_lst (qc q_int (qc q_int (qc (q_op op_sub (q_call G hr rfl mG kG bG .nil pass0 (qc (qv 0) (qc q_int qa_nil))) q_int) (qc (q_op op_sub (q_call G hr rfl mG kG bG .nil pass0 (qc (qv 0) (qc (q_op op_add (q_op op_mul q_int (qv 1)) q_int) qa_nil))) (qv 1)) qa_nil))))) (q_call G hr rfl mG kG bG .nil pass0 (qc (qv 0) (qc q_int qa_nil))) (fun _ _ => rfl)))), ?_⟩
  refine ⟨_, rfl, p, c, ns, i, j, 7, rfl, hp, by omega, by decide, by decide, fun r1 i1 j1 a1 a2 a3 a4 => ?_⟩
  obtain ⟨P1, O1⟩ := Pen.draw hp i1 j1 a3 (by omega) a4
  refine ⟨r1, 3, rfl, rfl, _, rfl, _, rfl, 2, d, rfl, rfl, .inl (by omega), 2 * d, 1, rfl, rfl, p, c, ns, i1, j1, 2 * d + 1, rfl, P1, by omega, by omega, by omega, fun r2 i2 j2 c1 c2 c3 c4 => ?_⟩
  obtain ⟨P2, O2⟩ := Pen.draw P1 i2 j2 c3 (by omega) c4
  refine ⟨_, rfl, r2, d, rfl, rfl, by show 4 ≤ sizeLine; decide, fun l hl => ?_⟩
  have sl := same_new hl (.lst [.int 0, .int 0, .int (r1 - 3), .int (r2 - d)])
  have P3 : PenAt (upd (upd (upd H p (.lst [.ref c, .int i1, .int j1])) p (.lst [.ref c, .int i2, .int j2])) l (.lst [.int 0, .int 0, .int (r1 - 3), .int (r2 - d)])) p c ns i2 j2 := ⟨sl _ _ P2.at_, sl _ _ P2.cells, P2.low, P2.high⟩
  have lp : l ≠ p := fun z => by rw [z, P2.at_] at hl; cases hl
  refine ⟨_, rfl, p, c, ns, i2, j2, 4, rfl, P3, by omega, by decide, by decide, fun r3 i3 j3 e1 e2 e3 e4 => ?_⟩
  obtain ⟨P4, O4⟩ := Pen.draw P3 i3 j3 e3 (by omega) e4
  have fin : ∀ v : Int, -255 ≤ v → v ≤ 255 → Q (.int v) _ := fun v v1 v2 => q v i3 _ v1 v2 (by omega) ⟨fun b o eb nb => O4 b o (sl _ _ (O2 b o (O1 b o eb nb) nb)) nb, ⟨j3, P4⟩, by omega⟩
  have at3 := O4 l _ upd_same lp
  have r4 : r3 = ((0 : Nat) : Int) ∨ r3 = ((1 : Nat) : Int) ∨ r3 = ((2 : Nat) : Int) ∨ r3 = ((3 : Nat) : Int) := by omega
  rcases r4 with rfl | rfl | rfl | rfl
  · exact ⟨l, _, _, .int 0, rfl, rfl, SqL.of at3, atI_nat (j := 0) rfl, fin 0 (by omega) (by omega)⟩
  · exact ⟨l, _, _, .int 0, rfl, rfl, SqL.of at3, atI_nat (j := 1) rfl, fin 0 (by omega) (by omega)⟩
  · exact ⟨l, _, _, .int (r1 - 3), rfl, rfl, SqL.of at3, atI_nat (j := 2) rfl, fin _ (by omega) (by omega)⟩
  · exact ⟨l, _, _, .int (r2 - d), rfl, rfl, SqL.of at3, atI_nat (j := 3) rfl, fin _ (by omega) (by omega)⟩
end
end Mk
namespace Mk
open PySem L2 PyProof.Rows
abbrev sWei : Stmt := top 41
section
variable {P : Program} {w : World} {K : PySem.W.Frag} {mg : Str → Option Value} {base : Heap}
abbrev nWei : List Str := ["_law_pen_here", "_law_limit", "_law_deep", "_law_left", "_law_weights", "_law_k", "_law_weight", "_law_under"]
theorem scWei : FnScope nWei ["_law_pen_here", "_law_limit"] (defScope sWei) := ⟨rfl, rfl, rfl, by decide +kernel, rfl, by decide +kernel, by decide +kernel⟩
def spWei : Sp := fun vs H Q _ => ∃ (p c : Addr) (ns : List Int) (i j lim : Int), vs = [.ref p, .int lim] ∧ PenAt H p c ns i j ∧ i < 990000 ∧ 255 ≤ lim ∧ lim ≤ 1000 ∧
  ∀ (t a : Addr) (ws : List Int) (b e d i' : Int) (H' : Hp), Pen p c ns i i' H H' → i' ≤ i + 60 → H' t = some (.tup [.ref a, .int b, .int e, .int d]) → H' a = some (.tup (ws.map V.int)) → Fine ws d → 0 < ws.length → 0 < b → b ≤ 100000 → -255 ≤ e → e ≤ 255 → d ≤ 255 → Q (.ref t) H'
theorem at_mem {ns : List Int} {k : Int} (h0 : 0 ≤ k) (h : k < (ns.length : Int)) : ∃ v : Int, v ∈ ns ∧ atI (ns.map V.int) k = some (.int v) := by
  have hk : k.toNat < ns.length := by omega
  have ek : k = ((k.toNat : Nat) : Int) := by omega
  have q : atI (ns.map V.int) ((k.toNat : Nat) : Int) = some (.int ns[k.toNat]) := atI_nat (by rw [List.getElem?_map, List.getElem?_eq_getElem hk] <;> rfl)
  rw [← ek] at q
  exact ⟨ns[k.toNat], List.getElem_mem hk, q⟩
theorem Pen.refl {p c : Addr} {ns : List Int} {i j : Int} {H : Hp} (h : PenAt H p c ns i j) : Pen p c ns i i H H := ⟨fun _ _ e _ => e, ⟨j, h⟩, Int.le_refl _⟩
theorem Pen.step {p c : Addr} {ns : List Int} {i i1 i2 j2 : Int} {H H1 : Hp} (s : Pen p c ns i i1 H H1) (h1 : i1 ≤ i2) (h2 : i2 ≤ 1000000) (h3 : i2 ≤ i1 + 1) : Pen p c ns i i2 H (upd H1 p (.lst [.ref c, .int i2, .int j2])) := by
  obtain ⟨j, hp⟩ := s.pen
  obtain ⟨a, b⟩ := Pen.draw hp i2 j2 h1 h2 h3
  exact ⟨fun q o e n => b q o (s.old q o e n) n, ⟨j2, a⟩, by have := s.up; omega⟩
theorem Pen.same {p c : Addr} {ns : List Int} {i i1 : Int} {H H1 H2 : Hp} (s : Pen p c ns i i1 H H1) (h : Same H1 H2) : Pen p c ns i i1 H H2 := by
  obtain ⟨j, hp⟩ := s.pen
  exact ⟨fun q o e n => h _ _ (s.old q o e n), ⟨j, h _ _ hp.at_, h _ _ hp.cells, hp.low, hp.high⟩, s.up⟩
theorem Pen.trans {p c : Addr} {ns : List Int} {i i1 i2 : Int} {H H1 H2 : Hp} (s : Pen p c ns i i1 H H1) (t : Pen p c ns i1 i2 H1 H2) : Pen p c ns i i2 H H2 :=
  ⟨fun q o e n => t.old _ _ (s.old q o e n) n, t.pen, by have := s.up; have := t.up; omega⟩
theorem ok_wei {f gD gP : Addr} {fd dD dP : FuncData} (F : Fun K "_law_weighing" "_law_weighing" sWei f fd) (T : Tb mg) (hmin : mg "min" = none) (G : FnOk P w K mg base CX0 1 gD dD ["_law_pen_here", "_law_many"] (spDraw 1000000)) (bG : Binds K dD ["_law_pen_here", "_law_many"] []) (kG : PySem.W.keepIn K (.ref gD) = true) (mG : mg "_law_draw" = some (.ref gD))
    (GP : FnOk P w K mg base CX0 2 gP dP nLPl spLPl) (bP : Binds K dP nLPl []) (kP : PySem.W.keepIn K (.ref gP) = true) (mP : mg "_law_plus" = some (.ref gP)) : FnOk P w K mg base CX0 3 f fd ["_law_pen_here", "_law_limit"] spWei := by
  refine F.okQ scWei (fun vs H Q E h => ?_) (fun cdv A outer s H vs Q E hr h => ?_)
  · obtain ⟨p, c, ns, i, j, lim, rfl, _⟩ := h
    rfl
  obtain ⟨p, c, ns, i, j, lim, rfl, hp, hi, l1, l2, q⟩ := h
  have hr1 : Room 1 _ := hr.mono (by decide)
  refine ⟨_, (qss_cut (ps_setQ (i := 2) scWei.nd rfl (Or.inl rfl) (q_ix ix_list (q_lst (qc q_int (qc q_int (qc q_int (qc q_int (qc q_int (qc q_int qa_nil))))))) (q_call G hr1 rfl mG kG bG .nil pass0 (qc (qv 0) (qc q_int qa_nil))) (fun _ _ => rfl)) (by rfl))
    (qss_cut (qs (ps_par (i := 3) (j := 4) (by rfl) scWei.nd rfl rfl (by decide) rfl rfl (pa_cons (pe_op op_fdiv (pv 1) (pv 2)) (pa_cons (pe_lst pa_nil) pa_nil)) (by rfl)))
    (qss_cut (qs_for PassesOwn.never rfl (pi_range1 rfl T.range (pa_cons (pe_op op_add pe_int (pe_call G hr1 rfl mG kG bG .nil pass0 (pa_cons (pv 0) (pa_cons pe_int pa_nil)))) pa_nil)) (pg_name (i := 5) scWei.nd rfl (Or.inl rfl))
      (qss_cut (ps_setQ (i := 6) scWei.nd rfl (Or.inl rfl) (q_call G hr1 rfl mG kG bG .nil pass0 (qc (qv 0) (qc (q_op op_add (qe (pe_callB (call_min2 rfl) rfl hmin bf_min (pa_cons (pv 3) (pa_cons (qr (q_ix ix_list (q_lst (qc q_int (qc q_int (qc q_int qa_nil)))) (q_call G hr1 rfl mG kG bG .nil pass0 (qc (qv 0) (qc q_int qa_nil))) (fun _ _ => rfl))) pa_nil)))) q_int) qa_nil))) (by rfl))
      (qss_cut (ps_setQ (i := 3) scWei.nd rfl (Or.inl rfl) (q_op op_sub (qv 3) (qv 6)) (by rfl))
      (qss1 (qs_app (qv 4) (q_ix ix_list (q_lst (qc (qv 6) (qc (q_op op_sub q_int (qv 6)) qa_nil))) (q_call G hr1 rfl mG kG bG .nil pass0 (qc (qv 0) (qc q_int qa_nil))) (fun _ _ => rfl)))))))
    (qss_cut (ps_setQ (i := 7) scWei.nd rfl (Or.inl rfl) (q_ix ix_list (q_lst (qc q_int (qc q_int (qc q_int (qc (q_op op_add q_int (q_call G hr1 rfl mG kG bG .nil pass0 (qc (qv 0) (qc q_int qa_nil)))) (qc (q_op op_add q_int (q_call G hr1 rfl mG kG bG .nil pass0 (qc (qv 0) (qc q_int qa_nil)))) (qc q_int qa_nil))))))) (q_call G hr1 rfl mG kG bG .nil pass0 (qc (qv 0) (qc q_int qa_nil))) (fun _ _ => rfl)) (by rfl))
    (qss1 (qs_ret (q_tup (qc (qe (pe_callTy call_tuple_of rfl T.tuple bt_tuple (pa_cons (pv 4) pa_nil))) (qc (qv 7) (qc (q_call GP hr rfl mP kP bP .nil pass0 (qc (qv 0) (qc (qv 2) qa_nil))) (qc (qv 2) qa_nil))))))))))), ?_⟩
  have hi4 := hp.high
  -- the depth
  refine ⟨fun σ' H' => ∃ d i1, σ' = [some (.ref p), some (.int lim), some (.int d), none, none, none, none, none] ∧ Pen p c ns i i1 H H' ∧ i1 ≤ i + 1 ∧ 0 < d ∧ d ≤ 255, ?_, ?_⟩
  · refine ⟨by show 6 ≤ sizeLine; decide, fun l0 hl0 => ?_⟩
    have s0 := same_new hl0 (.lst [.int 1, .int 2, .int 3, .int 7, .int 15, .int 255])
    have lp0 : l0 ≠ p := fun z => by rw [z, hp.at_] at hl0; cases hl0
    have P0 := (Pen.refl hp).same s0
    refine ⟨_, rfl, p, c, ns, i, j, 6, rfl, ⟨s0 _ _ hp.at_, s0 _ _ hp.cells, hp.low, hp.high⟩, by omega, by decide, by decide, fun r1 i1 j1 a1 a2 a3 a4 => ?_⟩
    have P1 := P0.step (j2 := j1) a3 (by omega) a4
    obtain ⟨v, vm, va⟩ := at_mem (ns := [1, 2, 3, 7, 15, 255]) a1 a2
    refine ⟨l0, _, r1, .int v, rfl, rfl, SqL.of ((upd_ne lp0).trans upd_same), va, v, i1, rfl, P1, by omega, ?_, ?_⟩
    · simp at vm; omega
    · simp at vm; omega
  rintro σ1 H1 ⟨d, i1, e1, P1, u1, d0, d1⟩
  rw [e1]
  obtain ⟨j1, hp1⟩ := P1.pen
  have lq : 0 ≤ lim / d := Int.ediv_nonneg (by omega) (by omega)
  refine ⟨fun σ' H' => ∃ l, σ' = [some (.ref p), some (.int lim), some (.int d), some (.int (lim / d)), some (.ref l), none, none, none] ∧ H1 l = none ∧ H' = upd H1 l (.lst []), ⟨_, rfl, _, rfl, lim, d, rfl, rfl, ⟨by omega, by omega⟩, by show 0 ≤ sizeLine; decide, fun l hl => ⟨_, _, rfl, l, rfl, hl, rfl⟩⟩, ?_⟩
  rintro σ2 H2 ⟨l, e2, hl, eH⟩
  rw [e2]
  have s2 : Same H1 H2 := by rw [eH]; exact same_new hl _
  have el2 : H2 l = some (.lst []) := by rw [eH]; exact upd_same
  have lp : l ≠ p := fun z => by rw [z, hp1.at_] at hl; cases hl
  have P2 := P1.same s2
  let Pv : Nat → L2.St → Hp → Prop := fun k σ' H' => ∃ (v5 v6 : Option V) (left i3 : Int) (js : List Int), σ' = [some (.ref p), some (.int lim), some (.int d), some (.int left), some (.ref l), v5, v6, none] ∧ Pen p c ns i i3 H H' ∧ i3 ≤ i + 2 + 3 * (k : Int) ∧ H' l = some (.lst (js.map V.int)) ∧ js.length = k ∧ 0 ≤ left ∧ (js.map absZ).sum + left = lim / d ∧ ∀ w ∈ js, -1000 ≤ w ∧ w ≤ 1000
  obtain ⟨j2, hp2⟩ := P2.pen
  refine ⟨fun σ' H' => ∃ n : Nat, 0 < n ∧ n ≤ 6 ∧ Pv n σ' H', ?_, ?_⟩
  · refine ⟨_, rfl, p, c, ns, i1, j2, 6, rfl, hp2, by omega, by decide, by decide, fun r2 i2 j3 b1 b2 b3 b4 => ?_⟩
    have P3 := P2.step (j2 := j3) b3 (by omega) b4
    refine ⟨1, r2, rfl, rfl, 1 + r2, rfl, by omega, by omega, for_range Pv ⟨none, none, lim / d, i2, [], rfl, P3, by omega, (upd_ne lp).trans el2, rfl, lq, ?_, fun w hw => nomatch hw⟩ ?_ fun σ3 H3 h3 => ⟨_, ?_, ?_, h3⟩⟩
    · show (0 : Int) + lim / d = lim / d
      omega
    · rintro k σ3 H3 hk ⟨v5, v6, left, i3, js, e3, P4, u4, el, hlen, hleft, hsum, hw⟩
      rw [e3]
      obtain ⟨j4, hp4⟩ := P4.pen
      have lw : ∀ {i' j' : Int} {H' : Hp}, H' l = some (.lst (js.map V.int)) → (upd H' p (.lst [.ref c, .int i', .int j'])) l = some (.lst (js.map V.int)) := fun e => (upd_ne lp).trans e
      refine ⟨fun σ' H' => ∃ wt i5, σ' = [some (.ref p), some (.int lim), some (.int d), some (.int left), some (.ref l), some (.int (0 + (k : Int))), some (.int wt), none] ∧ 0 ≤ wt ∧ wt ≤ left ∧ wt ≤ 1000 ∧ Pen p c ns i i5 H H' ∧ i5 ≤ i3 + 2 ∧ H' l = some (.lst (js.map V.int)), ?_, ?_⟩
      · refine ⟨_, rfl, _, rfl, by show 3 ≤ sizeLine; decide, fun l0 hl0 => ?_⟩
        have s0 := same_new hl0 (.lst [.int 3, .int 9, .int 1000])
        have lp0 : l0 ≠ p := fun z => by rw [z, hp4.at_] at hl0; cases hl0
        have P5 := P4.same s0
        refine ⟨_, rfl, p, c, ns, i3, j4, 3, rfl, ⟨s0 _ _ hp4.at_, s0 _ _ hp4.cells, hp4.low, hp4.high⟩, by omega, by decide, by decide, fun r i4 j5 a1 a2 a3 a4 => ?_⟩
        have P6 := P5.step (j2 := j5) a3 (by omega) a4
        obtain ⟨v, vm, va⟩ := at_mem (ns := [3, 9, 1000]) a1 a2
        have v3 : 3 ≤ v ∧ v ≤ 1000 := by simp at vm; omega
        obtain ⟨j6, hp6⟩ := P6.pen
        refine ⟨l0, _, r, .int v, rfl, rfl, SqL.of ((upd_ne lp0).trans upd_same), va, left, v, rfl, _, 1, rfl, rfl, p, c, ns, i4, j6, _, rfl, hp6, by omega, ?_, ?_, fun r2 i5 j7 b1' b2' b3' b4' => ⟨r2, i5, rfl, b1', ?_, ?_, P6.step b3' (by omega) b4', by omega, lw (lw (s0 _ _ el))⟩⟩
        · split <;> omega
        · split <;> omega
        · split at b2' <;> omega
        · split at b2' <;> omega
      · rintro σ5 H5 ⟨wt, i5, e5, w0, w1, w2, P5, u5, el5⟩
        rw [e5]
        refine ⟨fun σ' H' => σ' = [some (.ref p), some (.int lim), some (.int d), some (.int (left - wt)), some (.ref l), some (.int (0 + (k : Int))), some (.int wt), none] ∧ H' = H5, ⟨_, rfl, _, rfl, left, wt, rfl, rfl, rfl, rfl⟩, ?_⟩
        rintro σ6 H6 ⟨e6, e7⟩
        rw [e6, e7]
        obtain ⟨j5, hp5⟩ := P5.pen
        refine ⟨_, rfl, .inl ⟨rfl, _, SqL.of el5⟩, _, rfl, _, rfl, 0, wt, rfl, rfl, by show 2 ≤ sizeLine; decide, fun l0 hl0 => ?_⟩
        have s0 := same_new hl0 (.lst [.int wt, .int (0 - wt)])
        have lp0 : l0 ≠ p := fun z => by rw [z, hp5.at_] at hl0; cases hl0
        have P6 := P5.same s0
        refine ⟨_, rfl, p, c, ns, i5, j5, 2, rfl, ⟨s0 _ _ hp5.at_, s0 _ _ hp5.cells, hp5.low, hp5.high⟩, by omega, by decide, by decide, fun r i6 j6 a1 a2 a3 a4 => ?_⟩
        have P7 := P6.step (j2 := j6) a3 (by omega) a4
        obtain ⟨v, vm, va⟩ := at_mem (ns := [wt, 0 - wt]) a1 a2
        have va2 : absZ v = wt ∧ -1000 ≤ v ∧ v ≤ 1000 := by
          simp at vm
          rcases vm with rfl | rfl
          · unfold absZ; split <;> omega
          · unfold absZ; split <;> omega
        have el7 := lw (i' := i6) (j' := j6) (s0 _ _ el5)
        refine ⟨l0, _, r, .int v, rfl, rfl, SqL.of ((upd_ne lp0).trans upd_same), va, l, _, _, rfl, rfl, el7, by rw [List.length_map, hlen, sizeLine_eq]; omega, ?_⟩
        obtain ⟨j8, hp8⟩ := P7.pen
        have cl : c ≠ l := ne_of_none hp1.cells hl
        refine ⟨_, _, left - wt, i6, js ++ [v], rfl, ⟨fun b o eb nb => ?_, ⟨j8, (upd_ne lp.symm).trans hp8.at_, (upd_ne cl).trans hp8.cells, hp8.low, hp8.high⟩, P7.up⟩, by omega, by rw [List.map_append]; exact upd_same, by rw [List.length_append, hlen]; rfl, by omega, ?_, fun w hw' => ?_⟩
        · rw [upd_ne (ne_of_none (P1.old b o eb nb) hl)]
          exact P7.old b o eb nb
        · rw [List.map_append, List.sum_append]
          show (js.map absZ).sum + (absZ v + 0) + (left - wt) = lim / d
          omega
        · rcases List.mem_append.mp hw' with h | h
          · exact hw w h
          · rw [List.mem_singleton.mp h]; exact va2.2
    · omega
    · omega
  · rintro σ4 H4 ⟨n, n0, n6, v5, v6, left, i3, js, e4, P4, u4, el, hlen, hleft, hsum, hw⟩
    rw [e4]
    obtain ⟨j4, hp4⟩ := P4.pen
    have u5 : i3 ≤ i + 20 := by omega
    refine ⟨fun σ' H' => ∃ v i7, σ' = [some (.ref p), some (.int lim), some (.int d), some (.int left), some (.ref l), v5, v6, some (.int v)] ∧ 0 < v ∧ v ≤ 100000 ∧ Pen p c ns i i7 H H' ∧ i7 ≤ i + 30 ∧ H' l = some (.lst (js.map V.int)), ?_, ?_⟩
    · refine ⟨_, rfl, p, c, ns, i3, j4, 20, rfl, hp4, by omega, by decide, by decide, fun r1 i5 j5 a1 a2 a3 a4 => ?_⟩
      have P5 := P4.step (j2 := j5) a3 (by omega) a4
      obtain ⟨j5', hp5⟩ := P5.pen
      refine ⟨1, r1, rfl, rfl, _, rfl, p, c, ns, i5, j5', 300, rfl, hp5, by omega, by decide, by decide, fun r2 i6 j6 b1 b2 b3 b4 => ?_⟩
      have P6 := P5.step (j2 := j6) b3 (by omega) b4
      obtain ⟨j6', hp6⟩ := P6.pen
      refine ⟨1, r2, rfl, rfl, by show 6 ≤ sizeLine; decide, fun l0 hl0 => ?_⟩
      have s0 := same_new hl0 (.lst [.int 1, .int 2, .int 3, .int (1 + r1), .int (1 + r2), .int 100000])
      have lp0 : l0 ≠ p := fun z => by rw [z, hp6.at_] at hl0; cases hl0
      have P7 := P6.same s0
      refine ⟨_, rfl, p, c, ns, i6, j6', 6, rfl, ⟨s0 _ _ hp6.at_, s0 _ _ hp6.cells, hp6.low, hp6.high⟩, by omega, by decide, by decide, fun r3 i7 j7 c1 c2 c3 c4 => ?_⟩
      have P8 := P7.step (j2 := j7) c3 (by omega) c4
      obtain ⟨v, vm, va⟩ := at_mem (ns := [1, 2, 3, 1 + r1, 1 + r2, 100000]) c1 c2
      have vb : 0 < v ∧ v ≤ 100000 := by simp at vm; omega
      exact ⟨l0, _, r3, .int v, rfl, rfl, SqL.of ((upd_ne lp0).trans upd_same), va, v, i7, rfl, vb.1, vb.2, P8, by omega, (upd_ne lp).trans (s0 _ _ ((upd_ne lp).trans ((upd_ne lp).trans el)))⟩
    · rintro σ5 H5 ⟨v, i7, e5, v0, v1, P5, u7, el5⟩
      rw [e5]
      obtain ⟨j5, hp5⟩ := P5.pen
      refine ⟨_, rfl, l, js.map V.int, rfl, .inl ⟨SqL.of el5, fun a ha => ?_⟩⟩
      have s5 := same_new ha (.tup (js.map V.int))
      refine ⟨_, rfl, _, rfl, _, rfl, p, c, ns, i7, j5, d, rfl, ⟨s5 _ _ hp5.at_, s5 _ _ hp5.cells, hp5.low, hp5.high⟩, by omega, d0, d1, fun e i8 H8 g1 g2 g3 P8 => ?_⟩
      have ap : a ≠ p := fun z => by rw [z, hp5.at_] at ha; cases ha
      refine ⟨_, rfl, by show 4 ≤ sizeLine; decide, fun t ht => ?_⟩
      have s8 := same_new ht (.tup [.ref a, .int v, .int e, .int d])
      have ea : H8 a = some (.tup (js.map V.int)) := P8.old _ _ upd_same ap
      have wd : d * (js.map absZ).sum ≤ lim := by
        have m1 : (js.map absZ).sum ≤ lim / d := by omega
        have m2 := Int.mul_le_mul_of_nonneg_left m1 (Int.le_of_lt d0)
        have m3 := Int.mul_ediv_self_le (x := lim) (k := d) (by omega)
        omega
      exact q t a js v e d i8 _ (((P5.same s5).trans P8).same s8) (by omega) upd_same (s8 _ _ ea) ⟨d0, by show d * _ ≤ 3000; omega, by omega, hw⟩ (by omega) v0 v1 g1 g2 d1
end
end Mk
/-! a text times 0 or 1; isinstance of a caught exception or None; a def of two promises -/
namespace L2
open PySem PySem.Spec PyProof.Rows
theorem op_strB {X : Cx} : OpR X (binaryOp .Mult) (fun x y H Q => ∃ (z : Str) (k : Bool), x = .str z ∧ y = .int (if k then 1 else 0) ∧ Q (.str (if k then z else Str.empty)) H) := by
  intro pins s σ H x y v u Q I rx ry h
  obtain ⟨z, k, rfl, rfl, q⟩ := h
  obtain ⟨t, rfl⟩ := rx
  obtain ⟨t', rfl⟩ := ry
  cases k with
  | false => exact P.mul_str_none (by decide) (by decide) ⟨.str Str.empty, H, I.tok _, ⟨_, rfl⟩, q⟩
  | true =>
    refine P.mul_str (x := z) (n := 1) (by decide) (fun _ h => by simp at h) (fun _ h => by simp at h) ?_
    rw [if_neg (by decide), if_pos (by simp)]
    exact ⟨.str z, H, I, ⟨_, rfl⟩, q⟩
theorem call_isiE {X : Cx} {C : Addr} (hc : ClsObj X.K C) : CallR X (.builtin "isinstance") (fun xs H Q => ∃ (x : V) (b : Bool), xs = [x, .ref C] ∧ ((x = .non ∧ b = false) ∨ ∃ e d D, x = .ref e ∧ IsExc H e D d ∧ XCls X.K D ∧ PySem.W.kitOne X.K (.ref D) (.ref C) = some b) ∧ Q (.bl b) H) := by
  intro pins s σ H xs us Q I r h
  obtain ⟨x, b, rfl, hb, q⟩ := h
  rcases hb with ⟨rfl, rfl⟩ | ⟨e, d, D, rfl, he, xc, hk⟩
  · exact call_isiN hc pins s σ H _ us Q I r ⟨.non, .non, rfl, rfl, q⟩
  · exact call_isiX (c := .ref C) xc (fun u h => h) hk pins s σ H _ us Q I r ⟨e, d, rfl, he, q⟩
theorem FnOk.or {P : Program} {w : World} {K : PySem.W.Frag} {mg : Str → Option Value} {base : Heap} {CX : CXT} {k : Nat} {f : Addr} {fd : FuncData} {ps : List Str} {sp sp' : Sp} (F : FnOk P w K mg base CX k f fd ps sp) (F' : FnOk P w K mg base CX k f fd ps sp') :
    FnOk P w K mg base CX k f fd ps (fun vs H Q E => sp vs H Q E ∨ sp' vs H Q E) :=
  ⟨fun vs H Q E q => q.elim (F.len vs H Q E) (F'.len vs H Q E), fun A outer s H args us vs Q E hr he hb hv hs => hs.elim (F.run A outer s H args us vs Q E hr he hb hv) (F'.run A outer s H args us vs Q E hr he hb hv)⟩
theorem qss_never {X : Cx} {sts : List Stmt} : QSs X sts tNever := ⟨pss_never⟩
end L2
/-! a clause of several classes, any of which the exception is of -/
namespace XI
open PySem PySem.W PySem.Spec PySem.Calls PyProof.Rows Builtin Builtin.ObjectAttr
/-- the first class of the clause that the exception is of -/
inductive Comes (K : Frag) (C : Addr) : List Addr → Prop
  | here {D : Addr} {Ds : List Addr} : mroIn K C (.ref D) = some true → Comes K C (D :: Ds)
  | later {D : Addr} {Ds : List Addr} : mroIn K C (.ref D) = some false → Comes K C Ds → Comes K C (D :: Ds)
/-- does an exception of class C come to a clause of a tuple of classes, the first of which it is of -/
theorem matches_tupU {K : Frag} {M : Model} {h : Heap} {e C t D : Addr} {Ds : List Addr} {o : Obj} {its : Array Value} {n : Nat} (KX : K.In h) (p : ExcAt e C h) (ht : h.get? t = some o) (hc : o.cls = .type "tuple") (hd : o.data = .seq its n) (hi : its.toList = Value.ref D :: Ds.map Value.ref)
    (cl : ∀ D' ∈ D :: Ds, (clsIn K D').isSome = true ∧ mroIn K D' (.type "BaseException") = some true) (sD : Comes K C (D :: Ds)) :
    Looks M h (excMatches (.ref e) (.ref t)) true := by
  have L1 : Looks M h (isInstance (.ref t) (.type "tuple")) true := by
    have ty : Looks M h (typeOf (.ref t)) (.type "tuple") := hc ▸ (Looks.ld ht).andThen .now
    exact ty.andThen (Looks.of_pure tc_tuple)
  have LS : Looks M h (seqItems? (.ref t)) (some its) := by
    intro A Q E s k q
    unfold seqItems?
    refine wpAny_bind (wpAny_load (k _ _ ht) ?_)
    rw [hd]
    exact wpAny_pure q
  have L5 : ∀ c ∈ Value.ref D :: Ds.map Value.ref, Looks M h (isExcClass c) true := by
    intro c hcm
    obtain ⟨D', hD, rfl⟩ : ∃ D' ∈ D :: Ds, c = Value.ref D' := by
      rcases List.mem_cons.mp hcm with rfl | hm
      · exact ⟨D, List.mem_cons_self .., rfl⟩
      · obtain ⟨D', hD, rfl⟩ := List.mem_map.mp hm
        exact ⟨D', List.mem_cons_of_mem _ hD, rfl⟩
    obtain ⟨cD, xD⟩ := cl D' hD
    have L2 := looks_mroIn (M := M) KX xD
    have L4 : Looks M h (isType (.ref D')) true := by
      unfold clsIn at cD
      split at cD
      · rename_i ho
        intro A' Q' E' s' k q
        unfold isType loadHead
        exact wpAny_bind (wpAny_loadPart (k _ _ (KX _ _ ho)) (wpAny_pure q))
      · cases cD
    intro A Q E s k q
    unfold isExcClass
    refine wpAny_bind (L4 A _ E s k ?_)
    first | exact L2 A _ E s k q | (simp only [if_true]; exact L2 A _ E s k q)
  intro A Q E s k q
  unfold excMatches
  refine wpAny_bind (L1 A _ E s k ?_)
  simp only [if_true]
  refine wpAny_bind (LS A _ E s k (wpAny_bind (wpAny_pure ?_)))
  rw [show (Option.getD (some its) #[]).toList = Value.ref D :: Ds.map Value.ref from hi]
  refine wpAny_bind ?_
  refine looks_forIn (M := M) (h := h) (r := PUnit.unit) (l := Value.ref D :: Ds.map Value.ref) ?_ A _ E s k ?_
  · intro c hcm A Q E s k q
    refine wpAny_bind (L5 c hcm A _ E s k ?_)
    simp only [Bool.not_true, Bool.false_eq_true, if_false]
    exact wpAny_pure q
  refine wpAny_bind (p.ty A _ E s k ?_)
  refine wpAny_bind ?_
  show wpAny M A (forIn ((D :: Ds).map Value.ref) _ _) _ E s
  clear hi L5 cl LS L1
  generalize D :: Ds = L at sD ⊢
  induction sD with
  | here h =>
    have L3 := looks_mroIn (M := M) KX h
    simp only [List.map_cons, List.forIn_cons]
    refine wpAny_bind (wpAny_bind (L3 A _ E s k ?_))
    simp only [if_true]
    exact wpAny_pure (wpAny_pure (wpAny_pure q))
  | later h _ ih =>
    have L3 := looks_mroIn (M := M) KX h
    simp only [List.map_cons, List.forIn_cons]
    refine wpAny_bind (wpAny_bind (L3 A _ E s k ?_))
    simp only [Bool.false_eq_true, if_false]
    exact wpAny_pure ih
end XI
namespace L2
open PySem PySem.Spec PyProof.Rows
/-! ### try: one clause of a tuple of classes, with a name for the exception -/
def tTryU (X : Cx) (i : Nat) (spec : Expr) (body suite : List Stmt) : TS := fun Dn σ H => ∃ (E : XK) (tb : TS),
  (∀ pn xe, Rs (X.tr pn xe) E → Passes (CXE X.prog X.w) (X.tr pn xe) E → QSs (X.tr pn xe) body tb) ∧ tb Dn σ H ∧
  ∀ c d H1, E c d H1 → ∃ C D Ds, c = .ref C ∧ Classes X.K (D :: Ds) ∧ XI.Comes X.K C (D :: Ds) ∧ ∀ a oe, H1 a = none → ExcO oe C d →
    ∃ te, (∀ pn, QE (X.sui a pn) spec te) ∧ te (blank X.N) (upd H1 a (.frz oe (.own a))) fun v H2 => ∃ t, v = .ref t ∧ H2 t = some (.tup ((D :: Ds).map V.ref)) ∧ H2 a = some (.frz oe (.own a)) ∧
      ∃ ts, (∀ pn, QSs (X.sui a pn) suite ts) ∧ ts (Dn.gone i) ((blank X.N).set i (some (.ref a))) H2
section
variable {X : Cx} {pins : List (Addr × Obj)} {σ : St} {H : Hp} {s : Shared}
theorem clause_runU {a C D : Addr} {Ds : List Addr} {d : Option Addr} {oe : Obj} {n : Str} {i : Nat} {spec : Expr} {hpos : Pos} {b₀ : Stmt} {suite : List Stmt} {Dn : Ends} {T : Addr} {vs : Array Value} {te : TE}
    (I : Inv X pins σ H s) (da : oe.data = .fields vs) (v1 : vs[1]? = some (.ref T)) (en : Entry s.heap T .none) (fT : H T = none) (cT : T ≠ X.env.locals ∧ T ∉ X.fs ∧ (T ∈ X.ex ∨ X.s_0.heap.objs.size ≤ T) ∧ (∀ x c, X.env.cells.lookup x = some c → c ≠ T) ∧ ∀ p ∈ X.pn ++ pins, p.1 ≠ T) (xo : ExcO oe C d)
    (cl : Classes X.K (D :: Ds)) (hs : XI.Comes X.K C (D :: Ds)) (hN : X.N.Nodup) (hi : X.N[i]? = some n) (hl : X.env.kindOf n = some .local)
    (hsp : ∀ pn, QE (X.sui a pn) spec te)
    (q : te σ H fun v H2 => ∃ t, v = .ref t ∧ H2 t = some (.tup ((D :: Ds).map V.ref)) ∧ H2 a = some (.frz oe (.own a)) ∧ ∃ ts, (∀ pn, QSs (X.sui a pn) (b₀ :: suite) ts) ∧ ts (Dn.gone i) (σ.set i (some (.ref a))) H2) :
    wpAny (model X.prog X.w) X.A (handleBy (.ref a) X.env [.ExceptHandler (some spec) (some n) (b₀ :: suite) hpos]) (SP X pins Dn) X.xe s := by
  obtain ⟨oT, tsT, eT, dT, e3⟩ := en
  have I2 : Inv (X.sui a (X.pn ++ pins)) [(T, oT)] σ H s :=
    ⟨I.ok.sui, I.os, I.bare, I.base, I.loc, I.cell, I.free, I.freeC, fun p hp => by
      rcases List.mem_append.mp hp with hp | hp
      · exact I.pin p hp
      · rw [List.mem_singleton.mp hp]
        exact ⟨eT, fT, cT.1, cT.2.1, fun v z => by rw [dT] at z; cases z⟩, I.hok, I.len⟩
  refine wpAny_handleBy_cons (codeAny_handlers_test ?_) (by intro z; cases z)
  refine wpAny_mono ((hsp (X.pn ++ pins)).r [(T, oT)] s σ H _ I2 q) (fun u s1 z => ?_) fun _ _ z => z.elim
  obtain ⟨v, H2, I3', ru, t, rfl, et, ea, ts, hts, q2⟩ := z
  obtain rfl : u = Value.ref t := ru
  have I3 : Inv X pins σ H2 s1 := I3'.back I.ok
  obtain ⟨eT1, fT1, _, _, _⟩ := I3'.pin (T, oT) (List.mem_append_right _ (List.mem_singleton.mpr rfl))
  have en1 : Entry s1.heap T .none := ⟨oT, tsT, eT1, dT, e3⟩
  have xe : XI.ExcAt a C s1.heap := (show IsExc H2 a C d from ⟨oe, ea, xo⟩).at I3.hok
  have ga : s1.heap.get? a = some oe := (I3.hok a _ ea).1
  obtain ⟨_, its, hv, ht, _⟩ := I3.hok t _ et
  obtain ⟨o, ho, hc, n', hd⟩ := ht
  refine (XI.matches_tupU I3.kIn xe ho hc hd (refs_vals hv) cl hs).here (codeAny_handlers_suite_as ?_)
  refine land ga da v1 en1 fun h1 k1 en2 => ?_
  have I4 : Inv X pins σ H2 { s1 with heap := h1 } := I3.turned (t' := s1.toks) (fun b o z e => (k1 b z).trans e) fT1 cT.1 cT.2.2.1 cT.2.2.2.1 cT.2.2.2.2
  refine store_ok2 (v := .ref a) (i := i) I4 hN hi (.inl hl) rfl (fun s2 I5 _ => ?_) (.inr hl)
  refine wpAny_mono ((hts (X.pn ++ pins)).r [] s2 _ H2 (Dn.gone i) I5.sui q2) (fun f s3 z => ?_) fun _ _ z => z.elim
  have z' := SP.back (pins := pins) I.ok z
  cases f with
  | next => obtain ⟨σ', H', J, r⟩ := z'; exact J.unbound hN hi hl fun s4 J4 => ⟨_, H', J4, r⟩
  | brk => obtain ⟨σ', H', J, r⟩ := z'; exact J.unbound hN hi hl fun s4 J4 => ⟨_, H', J4, r⟩
  | cont => obtain ⟨σ', H', J, r⟩ := z'; exact J.unbound hN hi hl fun s4 J4 => ⟨_, H', J4, r⟩
  | ret u => obtain ⟨v, σ', H', J, rv, r⟩ := z'; exact J.unbound hN hi hl fun s4 J4 => ⟨v, _, H', J4, rv, r⟩
end
section
variable {X : Cx} {n : Str} {i : Nat} {spec : Expr} {hpos pos : Pos} {body suite : List Stmt} {b₀ : Stmt}
theorem qs_tryU (hst : X.stack = X.env :: X.outer) (hf : X.env.frame = some X.env.locals) (hN : X.N.Nodup) (hi : X.N[i]? = some n) (hl : X.env.kindOf n = some .local) :
    QS X (.Try body [.ExceptHandler (some spec) (some n) (b₀ :: suite) hpos] [] [] pos) (tTryU X i spec body (b₀ :: suite)) := by
  refine ⟨fun pins s σ H D I h => ?_⟩
  obtain ⟨E, tb, hb, q, hx⟩ := h
  -- the clause, of an exception that arrives
  have arrive : ∀ {σ1 : St} {H1 H2 : Hp} {s1 s2 : Shared} {a : Addr} {oe : Obj} {vs : Array Value} {h1 : Heap} {T : Addr} {S : List Addr}, Inv X pins σ1 H1 s1 → s2.os = s1.os → AllBare s2.gens → Un (frs X.stack) [] H1 H2 s1.heap s2.heap → HOk X.prog X.w H2 s2.heap →
      oe.data = .fields vs → vs[2]? = some .none → 1 < vs.size → E oe.cls oe.dict H2 → s1.heap.get? a = none → H2 a = none → (∀ b ∈ S, s1.heap.get? b = none ∧ H2 b = none) →
      Wrote s2.heap h1 a T oe vs (frs (X.env :: X.outer)) S → Entry h1 T (rawInt X.env.locals) →
      wpAny (model X.prog X.w) X.A (setFlight (.ref a) none) (fun _ s3 => wpAny (model X.prog X.w) X.A (handleBy (.ref a) X.env [.ExceptHandler (some spec) (some n) (b₀ :: suite) hpos]) (SP X pins D) X.xe s3) X.xe { s2 with heap := h1 } := by
    intro σ1 H1 H2 s1 s2 a oe vs h1 T S I1 os bare un hok da v2 sz hE na fa hS W en
    have w := withF_v (oe := oe) (T := T) sz v2
    refine land (s := { s2 with heap := h1 }) (oe := withF oe (vs.setIfInBounds 1 (.ref T))) W.ex rfl w.1 en fun h2 k2 en2 => ?_
    obtain ⟨C, D1, Ds, hC, cl, hs, hts⟩ := hx _ _ _ hE
    have xo : ExcO (withF oe (vs.setIfInBounds 1 (.ref T))) C oe.dict := ⟨hC, rfl, _, rfl, w.2⟩
    obtain ⟨te, h1', h2'⟩ := hts a _ fa xo
    have Z : Step s2.heap h2 (a :: S) (frs X.stack) := by
      rw [hst]
      exact W.step.land W.new k2
    have J := I1.held (a := a) (oe := withF oe (vs.setIfInBounds 1 (.ref T))) os bare un hok Z (fun b hb => (List.mem_cons.mp hb).elim (fun z => z ▸ ⟨na, fa⟩) (hS b)) na fa ((k2 a (Ne.symm W.ne)).trans W.ex)
    have fT : upd H2 a (.frz (withF oe (vs.setIfInBounds 1 (.ref T))) (.own a)) T = none := by
      rw [upd_ne W.ne]
      exact hok.none_of W.new
    exact clause_runU J rfl w.1 en2 fT (I1.newT un W.ge) xo cl hs hN hi hl h1' h2'
  refine wpAny_Try_except ?_
  have run := hb (X.pn ++ pins) (fun e s1 => wpAny (model X.prog X.w) X.A (noteFrame e X.env) (fun _ s2 => wpAny (model X.prog X.w) X.A (setFlight e none) (fun _ s3 => wpAny (model X.prog X.w) X.A (handleBy e X.env [.ExceptHandler (some spec) (some n) (b₀ :: suite) hpos]) (SP X pins D) X.xe s3) X.xe s2) X.xe s1) ?_ ?_
  · refine wpAny_mono (run.r [] s σ H D I.tr q) (fun f s1 z => ?_) fun _ _ z => z
    have z' := SP.back (pins := pins) I.ok z
    cases f with
    | next => exact wpAny_execs_nil z'
    | brk => exact z'
    | cont => exact z'
    | ret u => exact z'
  · intro pins' σ1 H1 s1 h' e C us I1 N hE
    have I1' : Inv X pins σ1 H1 s1 := I1.back I.ok
    obtain ⟨t, he, ht, _⟩ := N.there
    have ff : h'.FunFrames X.base (X.env :: X.outer) := hst ▸ I1'.stack.of_keeps fun b o q _ => ⟨o, N.keeps b o q, rfl⟩
    refine note_first (s := { s1 with heap := h' }) (hst ▸ I.ok.frames) ff hf he rfl rfl fun h1 T W en => ?_
    exact arrive (s2 := { s1 with heap := h' }) (S := []) I1' rfl I1'.bare (Un.kept N.keeps) (I1'.hok.kept N.keeps) rfl rfl (Nat.le_of_ble_eq_true rfl) hE N.new (I1'.hok.none_of N.new) (fun _ z => nomatch z) W en
  · intro pins' σ1 H1 s1 e s' I1 hc
    have I1' : Inv X pins σ1 H1 s1 := I1.back I.ok
    obtain ⟨a, T, H', oe, vs, rfl, F⟩ := hc
    have sz := (Array.getElem?_eq_some_iff.mp F.v1).1
    have un : Un (frs X.stack) [] H1 H' s1.heap s'.heap := F.un
    refine note_next (hst ▸ I.ok.frames) (hst ▸ I1'.stackAfter un) hf F.ea F.da F.v1 F.ne F.ent fun h1 T1 W en => ?_
    refine arrive (s2 := s') (S := [T]) I1' F.os F.bare un F.hok F.da F.v2 sz F.ex F.na F.fa (fun b hb => ?_) W en
    have z : b = T := by simpa using hb
    subst z
    exact ⟨F.nT, F.fT⟩
end
end L2
namespace L2
open PySem PySem.Spec PyProof.Rows
theorem qs_lock {X : Cx} {st : Stmt} {t : TS} (h : QS X st t) : QS X st (tLock t) := ⟨ps_lock h.r⟩
/-- over the keys of a locked dict -/
theorem for_keys {d : Addr} {o : Obj} {kvs : List (Key × V)} {g : TG} {tb : TS} {D : Ends} {σ : St} {H : Hp} (Pv : Nat → St → Hp → Prop) (h0 : Pv 0 σ H) (hl : ∀ i σ H, i ≤ kvs.length → Pv i σ H → H d = some (.frz o (.dK kvs)))
    (hs : ∀ i k v σ H, kvs[i]? = some (k, v) → Pv i σ H → g (kV k) σ H fun σ2 H2 => tb { D with nx := Pv (i + 1), ct := Pv (i + 1), bk := D.nx } σ2 H2) (hd : ∀ σ H, Pv kvs.length σ H → D.nx σ H) :
    ∃ W : Nat → Nat → St → Hp → Prop, (∃ m, W 0 m σ H) ∧ ∀ i m σ H, W i m σ H →
      ((Itk d o kvs).stop i H ∧ D.nx σ H) ∨ ((Itk d o kvs).go i H ∧ ∃ N : St → Hp → Prop, (∀ σ' H', N σ' H' → ∃ m', m' < m ∧ W (i + 1) m' σ' H') ∧ ∀ x H', (Itk d o kvs).yld i H x H' → g x σ H' fun σ2 H2 => tb { D with nx := N, ct := N, bk := D.nx } σ2 H2) := by
  refine ⟨fun i m σ H => m = kvs.length - i ∧ i ≤ kvs.length ∧ Pv i σ H, ⟨kvs.length, by simp, Nat.zero_le _, h0⟩, ?_⟩
  rintro i m σ H ⟨rfl, hi, p⟩
  have q := hl i σ H hi p
  by_cases hlt : i < kvs.length
  · refine .inr ⟨⟨q, hlt⟩, Pv (i + 1), fun σ' H' p' => ⟨kvs.length - (i + 1), by omega, rfl, hlt, p'⟩, fun x H' y => ?_⟩
    obtain ⟨e, k, v, hkv, ex⟩ := y
    subst e; subst ex
    exact hs i k v σ _ hkv p
  · have e : i = kvs.length := by omega
    subst e
    exact .inl ⟨⟨q, Nat.le_refl _⟩, hd σ H p⟩
end L2
namespace Mk
open PySem L2 PyProof.Rows
abbrev sLSm : Stmt := top 42
/-- a dict of numbers: which ones -/
structure SetI (kvs : List (Key × V)) (S : Int → Prop) : Prop where
  val : ∀ t : Int, (valV kvs (.inl t)).isSome = true ↔ S t
  key : ∀ kv ∈ kvs, ∃ t : Int, kv.1 = .inl t
  nd : (kvs.map (·.1)).Nodup
theorem putK_nd {kvs : List (Key × V)} {k : Key} {v : V} (h : (kvs.map (·.1)).Nodup) : ((putK kvs k v).map (·.1)).Nodup := by
  unfold putK
  split
  · have e : (kvs.map fun kv => if kv.1 = k then (kv.1, v) else kv).map (·.1) = kvs.map (·.1) := by
      rw [List.map_map]
      apply List.map_congr_left
      intro kv _
      show (if kv.1 = k then (kv.1, v) else kv).1 = kv.1
      split <;> rfl
    rw [e]; exact h
  · rename_i c
    rw [List.map_append, List.nodup_append]
    refine ⟨h, List.nodup_cons.mpr ⟨(fun z => nomatch z), List.nodup_nil⟩, fun a ha b hb e => c ?_⟩
    obtain ⟨kv, hkv, ek⟩ := List.mem_map.mp ha
    have hb : b = k := List.mem_singleton.mp hb
    exact List.any_eq_true.mpr ⟨kv, hkv, decide_eq_true (by rw [ek, e, hb])⟩
theorem SetI.put {kvs : List (Key × V)} {S : Int → Prop} {t : Int} {v : V} (h : SetI kvs S) : SetI (putK kvs (.inl t) v) (fun u => S u ∨ u = t) where
  val := fun u => by
    rw [valV_put]
    by_cases c : u = t
    · subst c; rw [if_pos rfl]; exact ⟨fun _ => .inr rfl, fun _ => rfl⟩
    · rw [if_neg (fun z => c (Sum.inl.inj z)), h.val u]
      exact ⟨.inl, fun z => z.elim id fun z => absurd z c⟩
  key := fun kv hkv => by
    rcases putK_key hkv with e | ⟨q, hq, e⟩
    · exact ⟨t, e⟩
    · obtain ⟨u, eu⟩ := h.key q hq
      exact ⟨u, e ▸ eu⟩
  nd := putK_nd h.nd
theorem SetI.congr {kvs : List (Key × V)} {S S' : Int → Prop} (h : SetI kvs S) (e : ∀ t, S t ↔ S' t) : SetI kvs S' := ⟨fun t => (h.val t).trans (e t), h.key, h.nd⟩
theorem keys_ints : ∀ {l : List (Key × V)}, (∀ kv ∈ l, ∃ t : Int, kv.1 = .inl t) → ∃ ns : List Int, l.map (·.1) = ns.map Sum.inl
  | [], _ => ⟨[], rfl⟩
  | kv :: l, h => by
    obtain ⟨ns, e⟩ := keys_ints (l := l) fun q hq => h q (List.mem_cons_of_mem _ hq)
    obtain ⟨t, et⟩ := h kv List.mem_cons_self
    exact ⟨t :: ns, by rw [List.map_cons, List.map_cons, e, et]⟩
theorem nodup_of_map {α β : Type} (f : α → β) : ∀ {l : List α}, (l.map f).Nodup → l.Nodup
  | [], _ => List.nodup_nil
  | a :: l, h => by
    rw [List.map_cons, List.nodup_cons] at h
    exact List.nodup_cons.mpr ⟨fun z => h.1 (List.mem_map_of_mem z), nodup_of_map f h.2⟩
theorem SetI.keys {kvs : List (Key × V)} {S : Int → Prop} (h : SetI kvs S) : ∃ ns : List Int, kvs.map (·.1) = ns.map Sum.inl ∧ ns.Nodup ∧ ∀ t, t ∈ ns ↔ S t := by
  obtain ⟨ns, e⟩ := keys_ints h.key
  have hn := h.nd
  rw [e] at hn
  refine ⟨ns, e, nodup_of_map _ hn, fun t => ?_⟩
  rw [← h.val t, ← valV_any]
  constructor
  · intro ht
    have : (Sum.inl t : Key) ∈ kvs.map (·.1) := by rw [e]; exact List.mem_map_of_mem ht
    obtain ⟨kv, hkv, ek⟩ := List.mem_map.mp this
    exact List.any_eq_true.mpr ⟨kv, hkv, decide_eq_true ek⟩
  · intro ht
    obtain ⟨kv, hkv, ek⟩ := List.any_eq_true.mp ht
    have ek := of_decide_eq_true ek
    have : (Sum.inl t : Key) ∈ kvs.map (·.1) := by rw [← ek]; exact List.mem_map_of_mem hkv
    rw [e] at this
    obtain ⟨u, hu, eu⟩ := List.mem_map.mp this
    cases eu
    exact hu
theorem nodup_len : ∀ (n : Nat) (lo : Int) (l : List Int), l.Nodup → (∀ x ∈ l, lo ≤ x ∧ x < lo + (n : Int)) → l.length ≤ n
  | 0, lo, l, _, h => by
    cases l with
    | nil => exact Nat.le_refl _
    | cons a l => have := h a List.mem_cons_self; omega
  | n + 1, lo, l, hn, h => by
    by_cases c : (lo + (n : Int)) ∈ l
    · have e := List.length_erase_of_mem c
      have ih := nodup_len n lo (l.erase (lo + (n : Int))) (hn.erase _) fun x hx => by
        have h1 := h x (List.mem_of_mem_erase hx)
        have h2 : x ≠ lo + (n : Int) := fun z => by
          have := (hn.mem_erase_iff).mp hx
          exact this.1 z
        omega
      omega
    · have ih := nodup_len n lo l hn fun x hx => by
        have h1 := h x hx
        have h2 : x ≠ lo + (n : Int) := fun z => c (z ▸ hx)
        omega
      omega
theorem SetI.len {kvs : List (Key × V)} {S : Int → Prop} (h : SetI kvs S) (b : ∀ t, S t → -3000 ≤ t ∧ t ≤ 3000) : kvs.length ≤ 6001 := by
  obtain ⟨ns, e, nd, hm⟩ := h.keys
  have := nodup_len 6001 (-3000) ns nd fun x hx => by have := b x ((hm x).mp hx); omega
  have e2 : (kvs.map (·.1)).length = (ns.map (Sum.inl : Int → Key)).length := by rw [e]
  rw [List.length_map, List.length_map] at e2
  omega
theorem tab_succ {D : Nat} {ws : List Int} {i : Nat} {w t : Int} (hw : ws[i]? = some w) : (tabP D ws (i + 1) t).isSome = true ↔ ∃ n : Nat, n ≤ D ∧ (tabP D ws i (t - w * (n : Int))).isSome = true := by
  show (least (fun t => (tabP D ws i t).isSome) (ws.getD i 0) D t).isSome = true ↔ _
  rw [getD_of hw]
  constructor
  · intro h
    obtain ⟨k, hk⟩ := Option.isSome_iff_exists.mp h
    obtain ⟨h1, h2, _⟩ := least_some.mp hk
    exact ⟨k, h2, h1⟩
  · rintro ⟨n, hn, h⟩
    cases e : least (fun t => (tabP D ws i t).isSome) w D t with
    | some k => rfl
    | none =>
      have this : (tabP D ws i (t - w * (n : Int))).isSome = false := least_none.mp e n hn
      rw [h] at this
      cases this
section
variable {P : Program} {w : World} {K : PySem.W.Frag} {mg : Str → Option Value} {base : Heap}
abbrev nLSm : List Str := ["_law_weights", "_law_deep", "_law_found", "_law_weight", "_law_more", "_law_total", "_law_number"]
theorem scLSm : FnScope nLSm ["_law_weights", "_law_deep"] (defScope sLSm) := ⟨rfl, rfl, rfl, by decide +kernel, rfl, by decide +kernel, by decide +kernel⟩
def spLSm (K : PySem.W.Frag) : Sp := fun vs H Q _ => ∃ (a : Addr) (ws : List Int) (d : Int), vs = [.ref a, .int d] ∧ SqT K H a (ws.map V.int) ∧ Fine ws d ∧ d ≤ 65535 ∧
  ∀ (l : Addr) (ns : List Int) (H' : Hp), Same H H' → H l = none → H' l = some (.lst (ns.map V.int)) → (∀ t, t ∈ ns ↔ (tabP d.toNat ws ws.length t).isSome = true) → ns.length ≤ 6001 → Q (.ref l) H'
set_option maxHeartbeats 1000000 in
theorem ok_lsm {f : Addr} {fd : FuncData} (F : Fun K "_law_sums" "_law_sums" sLSm f fd) (T : Tb mg) : FnOk P w K mg base CX0 1 f fd ["_law_weights", "_law_deep"] (spLSm K) := by
  refine F.okQ scLSm (fun vs H Q E h => ?_) (fun cdv A outer s H vs Q E hr h => ?_)
  · obtain ⟨a, ws, d, rfl, _⟩ := h
    rfl
  obtain ⟨a, ws, d, rfl, hs, fi, d2, q⟩ := h
  have big : sizeLine = 16777216 := sizeLine_eq
  have many := fi.many
  have d0 := fi.d0
  refine ⟨_, (qss_cut (ps_setQ (i := 2) scLSm.nd rfl (Or.inl rfl) (q_d1 q_int q_bl) (by rfl))
    (qss_cut (qs_forT PassesOwn.never rfl (qv 0) (pg_name (i := 3) scLSm.nd rfl (Or.inl rfl))
      (qss_cut (qs (ps_set (i := 4) scLSm.nd rfl (Or.inl rfl) pe_dnewK (by rfl)))
      (qss_cut (qs_lock (qs_for PassesOwn.never rfl (pi_keys (pv 2)) (pg_name (i := 5) scLSm.nd rfl (Or.inl rfl)) (qss1 (qs_for PassesOwn.never rfl (pi_range1 rfl T.range (pa_cons (pe_op op_add (pv 1) pe_int) pa_nil)) (pg_name (i := 6) scLSm.nd rfl (Or.inl rfl))
        (qss1 (qs (ps_dput (hu_of hr) (pv 4) (pe_op op_add (pv 5) (pe_op op_mul (pv 3) (pv 6))) pe_bl (by rfl))))))))
      (qss1 (ps_setQ (i := 2) scLSm.nd rfl (Or.inl rfl) (qv 4) (by rfl))))))
    (qss1 (qs_ret (qe (pe_callTy (call_listD rfl) rfl T.list bt_list (pa_cons (pv 2) pa_nil))))))), ?_⟩
  let Pv : Nat → L2.St → Hp → Prop := fun i σ' H' => ∃ (b : Addr) (kvs : List (Key × V)) (v3 v4 v5 v6 : Option V), σ' = [some (.ref a), some (.int d), some (.ref b), v3, v4, v5, v6] ∧ Same H H' ∧ H b = none ∧ H' b = some (.dK kvs) ∧ SetI kvs (fun t => (tabP d.toNat ws i t).isSome = true)
  refine ⟨fun σ' H' => Pv 0 σ' H', fun b hb => ⟨upd_same, [(.inl 0, .bl true)], rfl, by show 1 ≤ 15; decide, ?_⟩, ?_⟩
  · rw [upd_upd]
    refine ⟨b, _, none, none, none, none, rfl, same_new hb _, hb, upd_same, fun t => ?_, fun kv hkv => ⟨0, by rw [List.mem_singleton.mp hkv]⟩, List.nodup_cons.mpr ⟨(fun z => nomatch z), List.nodup_nil⟩⟩
    show (valV [((.inl 0 : Key), V.bl true)] (.inl t)).isSome = true ↔ (if t = 0 then some 0 else none : Option Nat).isSome = true
    by_cases e : t = 0
    · subst e; rw [valV_pos rfl, if_pos rfl]; exact Iff.rfl
    · rw [valV_neg (fun z => e (Sum.inl.inj z).symm), if_neg e]; exact Iff.rfl
  rintro σ1 H1 P1
  refine ⟨fun σ' H' => Pv ws.length σ' H', ?_, ?_⟩
  rotate_left
  · rintro σ2 H2 ⟨b, kvs, v3, v4, v5, v6, e2, s2, hb, eb, st⟩
    rw [e2]
    obtain ⟨ns, ek, nd, hm⟩ := st.keys
    have ekV : (kvs.map fun kv => kV kv.1) = ns.map V.int := by
      have : (kvs.map fun kv => kV kv.1) = (kvs.map (·.1)).map kV := by rw [List.map_map]; rfl
      rw [this, ek, List.map_map]; rfl
    have hlen : ns.length ≤ 6001 := nodup_len 6001 (-3000) ns nd fun x hx => by have := fi.tab (Nat.le_refl _) ((hm x).mp hx); omega
    exact ⟨_, rfl, b, kvs, rfl, .inl eb, fun l hl => q l ns _ (s2.trans (same_new hl _)) (none_of s2 hl) (by rw [← ekV]; exact upd_same) hm hlen⟩
  obtain ⟨b, kvs, v3, v4, v5, v6, e1, s1, hb, eb, st⟩ := P1
  rw [e1]
  refine ⟨_, rfl, a, rfl, ⟨_, hs.same s1⟩, for_tup (K := K) (xs := ws.map V.int) Pv ⟨b, kvs, v3, v4, v5, v6, rfl, s1, hb, eb, st⟩ ?_ ?_ ?_⟩
  · rintro i σ3 H3 _ ⟨_, _, _, _, _, _, _, s3, _⟩
    exact hs.same s3
  rotate_left
  · rintro σ3 H3 h3
    rw [List.length_map] at h3
    exact h3
  clear e1 s1 hb eb st
  rintro i x σ3 H3 hx ⟨b, kvs, v3, v4, v5, v6, e3, s3, hb, eb, st⟩
  rw [e3]
  rw [List.getElem?_map] at hx
  cases hi : ws[i]? with
  | none => rw [hi] at hx; cases hx
  | some wt =>
  rw [hi] at hx
  cases hx
  have il : i < ws.length := (List.getElem?_eq_some_iff.mp hi).1
  have ew := fi.each wt (List.mem_of_getElem? hi)
  obtain ⟨ns, ek, nd, hm⟩ := st.keys
  let S2 : Nat → Int → Prop := fun j t => ∃ u ∈ ns.take j, ∃ n : Nat, n ≤ d.toNat ∧ t = u + wt * (n : Int)
  have inTab : ∀ {u : Int} {n : Nat}, u ∈ ns → n ≤ d.toNat → (tabP d.toNat ws (i + 1) (u + wt * (n : Int))).isSome = true := fun {u n} hu hn => (tab_succ hi).mpr ⟨n, hn, by rw [Int.add_sub_cancel]; exact (hm u).mp hu⟩
  refine ⟨fun σ' H' => ∃ m, σ' = [some (.ref a), some (.int d), some (.ref b), some (.int wt), some (.ref m), v5, v6] ∧ H3 m = none ∧ H' = upd H3 m (.dK []), fun m hm0 => ⟨m, rfl, hm0, rfl⟩, ?_⟩
  rintro σ4 H4 ⟨m, e4, hm0, e5⟩
  rw [e4]
  have s4 : Same H H4 := by rw [e5]; exact s3.trans (same_new hm0 _)
  have em4 : H4 m = some (.dK []) := by rw [e5]; exact upd_same
  have nbm : b ≠ m := ne_of_none eb hm0
  have eb4 : H4 b = some (.dK kvs) := by rw [e5]; exact (upd_ne nbm).trans eb
  have hmH : H m = none := none_of s3 hm0
  refine ⟨fun σ' H' => ∃ v5 v6 kvs', σ' = [some (.ref a), some (.int d), some (.ref b), some (.int wt), some (.ref m), v5, v6] ∧ Same H H' ∧ H' m = some (.dK kvs') ∧ SetI kvs' (fun t => (tabP d.toNat ws (i + 1) t).isSome = true), ?_, ?_⟩
  rotate_left
  · rintro σ5 H5 ⟨v5, v6, kvs', e6, s6, em, st'⟩
    rw [e6]
    exact ⟨_, rfl, m, kvs', _, _, _, _, rfl, s6, hmH, em, st'⟩
  refine ⟨b, .dK kvs, eb4, trivial, fun od => ?_⟩
  let Pv2 : Nat → L2.St → Hp → Prop := fun j σ' H' => ∃ (v5 v6 : Option V) (kvs' : List (Key × V)), σ' = [some (.ref a), some (.int d), some (.ref b), some (.int wt), some (.ref m), v5, v6] ∧ H' b = some (.frz od (.dK kvs)) ∧ Same H H' ∧ H' m = some (.dK kvs') ∧ SetI kvs' (S2 j)
  have klen : kvs.length = ns.length := by
    have e2 : (kvs.map (·.1)).length = (ns.map (Sum.inl : Int → Key)).length := by rw [ek]
    rw [List.length_map, List.length_map] at e2
    exact e2
  refine ⟨_, rfl, b, od, rfl, .inl ⟨kvs, upd_same, for_keys Pv2 ⟨v5, v6, [], rfl, upd_same, fun p o ep => ?_, (upd_ne nbm.symm).trans em4, fun t => ?_, (fun kv h => nomatch h), List.nodup_nil⟩ ?_ ?_ ?_⟩⟩
  · rw [upd_ne (ne_of_none ep hb)]; exact s4 p o ep
  · constructor
    · intro z; cases z
    · rintro ⟨u, hu, _⟩
      rw [List.take_zero] at hu
      cases hu
  · rintro j σ5 H5 _ ⟨_, _, _, _, z, _⟩
    exact z
  rotate_left
  · rintro σ5 H5 ⟨v5', v6', kvs', e6, ef, s6, em, st'⟩
    refine ⟨ef, v5', v6', kvs', e6, fun p o ep => ?_, (upd_ne nbm.symm).trans em, st'.congr fun t => ?_⟩
    · rw [upd_ne (ne_of_none ep hb)]; exact s6 p o ep
    · constructor
      · rintro ⟨u, hu, n, hn, rfl⟩
        rw [List.take_of_length_le (by omega)] at hu
        exact inTab hu hn
      · intro h
        obtain ⟨n, hn, h2⟩ := (tab_succ hi).mp h
        exact ⟨t - wt * (n : Int), by rw [List.take_of_length_le (by omega)]; exact (hm _).mpr h2, n, hn, by omega⟩
  rintro j k v σ5 H5 hkv ⟨v5', v6', kvs', e6, ef, s6, em, st'⟩
  rw [e6]
  have jl : j < ns.length := by rw [← klen]; exact (List.getElem?_eq_some_iff.mp hkv).1
  obtain ⟨u, hu⟩ : ∃ u, ns[j]? = some u := ⟨_, List.getElem?_eq_getElem jl⟩
  have ekk : k = .inl u := by
    have z : (kvs.map (·.1))[j]? = some k := by rw [List.getElem?_map, hkv]; rfl
    rw [ek, List.getElem?_map, hu] at z
    exact (Option.some.inj z).symm
  subst ekk
  have uin : u ∈ ns := List.mem_of_getElem? hu
  have ub := fi.tab (Nat.le_of_lt il) ((hm u).mp uin)
  have tk : ns.take (j + 1) = ns.take j ++ [u] := by rw [List.take_succ, hu]; rfl
  let Pv3 : Nat → L2.St → Hp → Prop := fun l σ' H' => ∃ (v6 : Option V) (kvs' : List (Key × V)), σ' = [some (.ref a), some (.int d), some (.ref b), some (.int wt), some (.ref m), some (.int u), v6] ∧ H' b = some (.frz od (.dK kvs)) ∧ Same H H' ∧ H' m = some (.dK kvs') ∧ SetI kvs' (fun t => S2 j t ∨ ∃ n : Nat, n < l ∧ t = u + wt * (n : Int))
  refine ⟨_, rfl, d, 1, rfl, rfl, d + 1, rfl, by omega, by omega, for_range Pv3 ⟨v6', kvs', rfl, ef, s6, em, st'.congr fun t => ⟨.inl, fun z => z.elim id fun ⟨n, hn, _⟩ => absurd hn (Nat.not_lt_zero _)⟩⟩ ?_ ?_⟩
  rotate_left
  · rintro σ6 H6 ⟨v6'', kvs'', e7, ef7, s7, em7, st7⟩
    refine ⟨_, v6'', kvs'', e7, ef7, s7, em7, st7.congr fun t => ?_⟩
    constructor
    · rintro (⟨u', hu', n, hn, rfl⟩ | ⟨n, hn, rfl⟩)
      · exact ⟨u', by rw [tk]; exact List.mem_append_left _ hu', n, hn, rfl⟩
      · exact ⟨u, by rw [tk]; exact List.mem_append_right _ (List.mem_singleton.mpr rfl), n, by omega, rfl⟩
    · rintro ⟨u', hu', n, hn, rfl⟩
      rw [tk] at hu'
      rcases List.mem_append.mp hu' with h | h
      · exact .inl ⟨u', h, n, hn, rfl⟩
      · rw [List.mem_singleton.mp h]; exact .inr ⟨n, by omega, rfl⟩
  rintro l σ6 H6 hl ⟨v6'', kvs'', e7, ef7, s7, em7, st7⟩
  rw [e7]
  have ll : l ≤ d.toNat := by omega
  have small : kvs''.length < sizeLine := by
    have := st7.len fun t ht => by
      rcases ht with ⟨u', hu', n, hn, rfl⟩ | ⟨n, hn, rfl⟩
      · exact fi.tab (Nat.succ_le_of_lt il) (inTab (List.mem_of_mem_take hu') hn)
      · exact fi.tab (Nat.succ_le_of_lt il) (inTab uin (by omega))
    omega
  refine ⟨_, rfl, _, rfl, _, rfl, _, rfl, wt, 0 + (l : Int), rfl, rfl, .inl (by omega), u, _, rfl, rfl, m, _, rfl, DPut.k (k := .inl (u + wt * (0 + (l : Int)))) em7 small, ?_⟩
  refine ⟨_, _, rfl, (upd_ne nbm).trans ef7, fun p o ep => ?_, upd_same, st7.put.congr fun t => ?_⟩
  · rw [upd_ne (ne_of_none ep hmH)]; exact s7 p o ep
  · rw [Int.zero_add]
    constructor
    · rintro ((h | ⟨n, hn, h⟩) | h)
      · exact .inl h
      · exact .inr ⟨n, by omega, h⟩
      · exact .inr ⟨l, by omega, h⟩
    · rintro (h | ⟨n, hn, h⟩)
      · exact .inl (.inl h)
      · by_cases c : n = l
        · subst c; exact .inr h
        · exact .inl (.inr ⟨n, by omega, h⟩)
end
end Mk
namespace Mk
open PySem L2 PyProof.Rows
abbrev sLRi : Stmt := top 45
theorem dotZ_snoc : ∀ (ks ws : List Int) (k w : Int), ks.length = ws.length → dotZ (ks ++ [k]) (ws ++ [w]) = dotZ ks ws + k * w
  | [], [], k, w, _ => by show k * w + dotZ [] [] = dotZ [] [] + k * w; show k * w + 0 = 0 + k * w; omega
  | a :: ks, b :: ws, k, w, h => by
    have ih := dotZ_snoc ks ws k w (by simpa using h)
    show a * b + dotZ (ks ++ [k]) (ws ++ [w]) = a * b + dotZ ks ws + k * w
    rw [ih]; omega
  | [], _ :: _, _, _, h => by cases h
  | _ :: _, [], _, _, h => by cases h
/-- what numbers come to is a sum that there is -/
theorem dot_tab {ws ks : List Int} {d : Int} (hl : ks.length = ws.length) (hd : 0 ≤ d) (hk : ∀ k ∈ ks, 0 ≤ k ∧ k ≤ d) : ∀ i, i ≤ ws.length → (tabP d.toNat ws i (dotZ (ks.take i) (ws.take i))).isSome = true
  | 0, _ => by
    rw [List.take_zero, List.take_zero, show dotZ [] [] = 0 from rfl, tab_zero]; rfl
  | i + 1, hi => by
    obtain ⟨w, hw⟩ : ∃ w, ws[i]? = some w := ⟨_, List.getElem?_eq_getElem (by omega)⟩
    obtain ⟨k, hk'⟩ : ∃ k, ks[i]? = some k := ⟨_, List.getElem?_eq_getElem (by omega)⟩
    have kb := hk k (List.mem_of_getElem? hk')
    have ih := dot_tab hl hd hk i (by omega)
    rw [tab_succ hw]
    refine ⟨k.toNat, by omega, ?_⟩
    have e1 : ks.take (i + 1) = ks.take i ++ [k] := by rw [List.take_succ, hk']; rfl
    have e2 : ws.take (i + 1) = ws.take i ++ [w] := by rw [List.take_succ, hw]; rfl
    rw [e1, e2, dotZ_snoc _ _ _ _ (by rw [List.length_take, List.length_take]; omega), Int.toNat_of_nonneg kb.1, Int.mul_comm w k, Int.add_sub_cancel]
    exact ih
def LenOk (d : PyData) (k : Nat) : Prop := d.showable = true ∧ d.shown.length ≤ k
theorem LenOk.int {n : Int} {k : Nat} (k0 : 0 < k) (k1 : k ≤ 60) (h : n.natAbs < 10 ^ k) : LenOk (.int n) (k + 1) := by
  refine ⟨?_, ?_⟩
  · rw [PyData.showable]
    refine decide_eq_true ?_
    by_cases z : n.natAbs = 0
    · rw [z]; decide
    · refine Nat.lt_trans ((Nat.log2_lt z).mpr (Nat.lt_of_lt_of_le h (Nat.le_trans (Nat.pow_le_pow_right (by decide) k1) (by decide : 10 ^ 60 ≤ 2 ^ 200)))) (by decide)
  · have e := int_text_length_le10 k0 h
    show (Str.ofString (toString n)).length ≤ _
    rw [PySem.ofString_length]
    exact e
theorem len_all {ds : List PyData} {k : Nat} (h : ∀ d ∈ ds, LenOk d k) : PyData.showableAll ds = true ∧ ((PyData.shownAll ds).map (·.length)).sum ≤ ds.length * k := by
  induction ds with
  | nil => simp [PyData.showableAll, PyData.shownAll]
  | cons d r ih =>
    obtain ⟨h1, h3⟩ := h d (List.mem_cons_self ..)
    obtain ⟨i1, i3⟩ := ih fun x hx => h x (List.mem_cons_of_mem _ hx)
    refine ⟨by rw [PyData.showableAll, h1, i1]; rfl, ?_⟩
    rw [PyData.shownAll, List.map_cons, List.sum_cons, List.length_cons, Nat.succ_mul]
    omega
theorem LenOk.tup {ds : List PyData} {k : Nat} (h : ∀ d ∈ ds, LenOk d k) : LenOk (.tuple ds) (ds.length * (k + 2) + 3) := by
  obtain ⟨a, c⟩ := len_all h
  refine ⟨by rw [PyData.showable]; exact a, ?_⟩
  have h2 := tupleText_len_le (PyData.shownAll ds)
  have h3 := PyData.shownAll_length ds
  simp only [PyData.shown]
  rw [Nat.mul_add]
  omega
theorem held_b {i d : Int} (hd : 0 ≤ d) : 0 ≤ heldZ i d ∧ heldZ i d ≤ d := by unfold heldZ; split <;> split <;> omega
theorem low_b {t b : Int} (h1 : 0 ≤ t) (h2 : 0 < b) : 0 ≤ (lowZ t b).1 ∧ (lowZ t b).1 ≤ t ∧ 0 ≤ (lowZ t b).2 ∧ (lowZ t b).2 ≤ b := by
  unfold lowZ
  refine ⟨Int.ediv_nonneg h1 (by omega), Int.ediv_le_self _ h1, Int.ediv_nonneg (by omega) (by omega), Int.ediv_le_self _ (by omega)⟩
theorem shp_nil : SeqAt.shaped (.list []) = true := by
  unfold SeqAt.shaped
  simp [PyData.canLay0, PyData.canLayAll0, PyData.depth, PyData.depthAll]
section
variable {P : Program} {w : World} {K : PySem.W.Frag} {mg : Str → Option Value} {base : Heap}
abbrev nLRi : List Str := ["_law_weights", "_law_under", "_law_extra", "_law_deep", "_law_found", "_law_gap_here", "_law_numbers", "_law_total", "_law_one", "_law_weight"]
theorem scLRi : FnScope nLRi ["_law_weights", "_law_under", "_law_extra", "_law_deep", "_law_found"] (defScope sLRi) := ⟨rfl, rfl, rfl, by decide +kernel, rfl, by decide +kernel, by decide +kernel⟩
def spLRi (K : PySem.W.Frag) : Sp := fun vs H Q _ => ∃ (a r x y : Addr) (ws ks : List Int) (b p d e : Int), vs = [.ref a, .int b, .int p, .int d, .ref r] ∧ SqT K H a (ws.map V.int) ∧ Fine ws d ∧ 0 < b ∧ b ≤ 100000 ∧ d ≤ 65535 ∧
  H r = some (.tup [.ref x, .ref y]) ∧ H x = some (.tup [.int (lowZ e b).1, .int (lowZ e b).2]) ∧ H y = some (.tup (ks.map V.int)) ∧ ks.length = ws.length ∧ (∀ k ∈ ks, 0 ≤ k ∧ k ≤ d) ∧ errZ (dotZ ks ws) b p d = e ∧ (∀ t, (tabP d.toNat ws ws.length t).isSome = true → errZ t b p d ≤ e) ∧
  ∀ H', Same H H' → Q (.bl true) H'
set_option maxHeartbeats 2000000 in
theorem ok_lri {f gS gG gL : Addr} {fd dS dG dL : FuncData} (F : Fun K "_law_right" "_law_right" sLRi f fd) (T : Tb mg) (hmax : mg "max" = none) (hsum : mg "sum" = none)
    (GS : FnOk P w K mg base CX0 1 gS dS ["_law_weights", "_law_deep"] (spLSm K)) (bS : Binds K dS ["_law_weights", "_law_deep"] []) (kS : PySem.W.keepIn K (.ref gS) = true) (mS : mg "_law_sums" = some (.ref gS))
    (GG : FnOk P w K mg base CX0 3 gG dG nLRo spLGa) (bG : Binds K dG nLRo []) (kG : PySem.W.keepIn K (.ref gG) = true) (mG : mg "_law_gap" = some (.ref gG))
    (GL : FnOk P w K mg base CX0 1 gL dL ["_law_top", "_law_under"] spLow) (bL : Binds K dL ["_law_top", "_law_under"] []) (kL : PySem.W.keepIn K (.ref gL) = true) (mL : mg "_law_low" = some (.ref gL)) :
    FnOk P w K mg base CX0 4 f fd ["_law_weights", "_law_under", "_law_extra", "_law_deep", "_law_found"] (spLRi K) := by
  refine F.okQ scLRi (fun vs H Q E h => ?_) (fun cdv A outer s H vs Q E hr h => ?_)
  · obtain ⟨a, r, x, y, ws, ks, b, p, d, e, rfl, _⟩ := h
    rfl
  obtain ⟨a, r, x, y, ws, ks, b, p, d, e, rfl, hs, fi, b1, b2, d2, er, ex, ey, hl, hk, he, hmx, q⟩ := h
  have big : sizeLine = 16777216 := sizeLine_eq
  have hr1 : Room 1 _ := hr.mono (by decide)
  have many := fi.many
  have d0 := fi.d0
  refine ⟨_, (qss_cut (ps_setQ (i := 5) scLRi.nd rfl (Or.inl rfl) (qe (pe_callB (cr_max rfl) rfl hmax bf_max (pa_cons
      (pe_lc (own := [("_law_total", 7)]) (g := gName 7) (by rfl) scLRi.nd (pi_list (pe_call GS hr1 rfl mS kS bS .nil pass0 (pa_cons (pv 0) (pa_cons (pv 3) pa_nil)))) (blkOk_by (own := [("_law_total", 7)]) (N := nLRi) (sc := defScope sLRi) (by decide +kernel))
        (fun _ _ _ _ _ => pg_name (i := 7) scLRi.nd rfl (Or.inl rfl)) (fun _ _ _ _ _ => pts_nil) (fun _ _ _ _ _ => pe_call GG hr rfl mG kG bG .nil pass0 (pa_cons (pv 7) (pa_cons (pv 1) (pa_cons (pv 2) (pa_cons (pv 3) pa_nil)))))) pa_nil))) (by rfl))
    (qss_cut (qs_if (qt (PW.pt (pw_or (pt_not (pt_val (pe_isi .tup (pv 4) rfl T.isi rfl T.tuple bt_tuple))) (pw_or (pt_cmpR op_ne (pe_callB call_len_seq rfl T.len PySem.boot_len (pa_cons (pv 4) pa_nil)) pe_int (nomark _))
        (pw_or1 (pt_cmpR op_ne (pe_callB (call_reprA hr) rfl T.repr bf_repr (pa_cons (q_ix ix_tup (qv 4) q_int (fun _ _ => rfl)).r pa_nil)) (pe_callB (call_reprA hr) rfl T.repr bf_repr (pa_cons (pe_call GL hr1 rfl mL kL bL .nil pass0 (pa_cons (pv 5) (pa_cons (pv 1) pa_nil))) pa_nil)) (nomark _))))))) (qss1 (qs_ret q_bl)) qss_nil)
    (qss_cut (ps_setQ (i := 6) scLRi.nd rfl (Or.inl rfl) (q_ix ix_tup (qv 4) q_int (fun _ _ => rfl)) (by rfl))
    (qss_cut (qs_if (qt (PW.pt (pw_or (pt_not (pt_val (pe_isi .tup (pv 6) rfl T.isi rfl T.tuple bt_tuple))) (pw_or1 (pt_cmpR op_ne (pe_callB call_len_seq rfl T.len PySem.boot_len (pa_cons (pv 6) pa_nil)) (pe_callB call_len_seq rfl T.len PySem.boot_len (pa_cons (pv 0) pa_nil)) (nomark _)))))) (qss1 (qs_ret q_bl)) qss_nil)
    (qss_cut (qs_if (qt (pt_cmpR (op_neD hr.units)
        (pe_lc (own := [("_law_one", 8)]) (g := gName 8) (by rfl) scLRi.nd (pi_tup (pv 6)) (blkOk_by (own := [("_law_one", 8)]) (N := nLRi) (sc := defScope sLRi) (by decide +kernel)) (fun _ _ _ _ _ => pg_name (i := 8) scLRi.nd rfl (Or.inl rfl))
          (fun _ _ _ _ _ => pts_one (PW.pt (pw_or (pt_not (pt_val (pe_isiK (K := K) .int (pv 8) rfl T.isi rfl T.int bt_int))) (pw_or (pt_val (pe_isiK (K := K) .bl (pv 8) rfl T.isi rfl T.bool bt_bool)) (pw_or1 (pt_not (pt_chain op_le op_le pe_int (pv 8) (pv 3)))))))) (fun _ _ _ _ _ => (pv 8)))
        (pe_lst pa_nil) (nomark _))) (qss1 (qs_ret q_bl)) qss_nil)
    (qss1 (qs_ret (qe (pe_cmpR op_eq (pe_call GG hr rfl mG kG bG .nil pass0 (pa_cons (pe_callB (cr_sum rfl) rfl hsum bf_sum (pa_cons
        (pe_lc (own := [("_law_one", 8), ("_law_weight", 9)]) (g := gTup K 2 (gCons (gName 8) (gCons (gName 9) gNil))) (by rfl) scLRi.nd (pi_zipS rfl T.zip (pa_cons (pv 6) (pa_cons (pv 0) pa_nil))) (blkOk_by (own := [("_law_one", 8), ("_law_weight", 9)]) (N := nLRi) (sc := defScope sLRi) (by decide +kernel))
          (fun _ _ _ _ _ => pg_tup rfl (pgs_cons (pg_name (i := 8) scLRi.nd rfl (Or.inl rfl)) (pgs_cons (pg_name (i := 9) scLRi.nd rfl (Or.inl rfl)) pgs_nil))) (fun _ _ _ _ _ => pts_nil) (fun _ _ _ _ _ => pe_op op_mul (pv 8) (pv 9))) pa_nil)) (pa_cons (pv 1) (pa_cons (pv 2) (pa_cons (pv 3) pa_nil))))) (pv 5) (nomark _)))))))))), ?_⟩
  let S : Option V → Option V → L2.St := fun v u => [some (.ref a), some (.int b), some (.int p), some (.int d), some (.ref r), v, u, none, none, none]
  have e0 : 0 ≤ e := by rw [← he]; exact absZ_nonneg _
  have dotIn : (tabP d.toNat ws ws.length (dotZ ks ws)).isSome = true := by
    have z := dot_tab hl (by omega) hk ws.length (Nat.le_refl _)
    rw [List.take_of_length_le (by omega), List.take_of_length_le (by omega)] at z
    exact z
  have eB : e ≤ 100000 * 65535 + 100000 * 65535 := by
    have h1 : 0 ≤ roundedZ (dotZ ks ws) b p d ∧ roundedZ (dotZ ks ws) b p d ≤ d := held_b (by omega)
    have m1 : d * b ≤ 65535 * 100000 := Int.mul_le_mul d2 b2 (by omega) (by omega)
    have m0 : 0 ≤ d * b := Int.mul_nonneg (by omega) (by omega)
    have h2 : 0 ≤ heldZ (dotZ ks ws + b * p) (b * d) ∧ heldZ (dotZ ks ws + b * p) (b * d) ≤ b * d := held_b (by rw [Int.mul_comm]; exact m0)
    have m2 : b * roundedZ (dotZ ks ws) b p d ≤ b * d := Int.mul_le_mul_of_nonneg_left h1.2 (by omega)
    have m3 : 0 ≤ b * roundedZ (dotZ ks ws) b p d := Int.mul_nonneg (by omega) h1.1
    rw [Int.mul_comm b d] at h2 m2
    rw [← he]
    unfold errZ
    have := absZ_le (b * roundedZ (dotZ ks ws) b p d - heldZ (dotZ ks ws + b * p) (d * b))
    rw [Int.mul_comm b d]
    have up : ∀ z : Int, -6553500000 ≤ z → z ≤ 6553500000 → absZ z ≤ 6553500000 := fun z z1 z2 => by unfold absZ; split <;> omega
    have := up _ (by omega : -6553500000 ≤ b * roundedZ (dotZ ks ws) b p d - heldZ (dotZ ks ws + b * p) (d * b)) (by omega)
    omega
  refine ⟨fun σ' H' => σ' = S (some (.int e)) none ∧ Same H H', ?_, ?_⟩
  · refine ⟨_, rfl, _, rfl, a, ws, d, rfl, hs, fi, d2, fun l ns H1 s1 hl0 el hm hlen => ⟨l, rfl, ⟨_, SqL.of el⟩, fun D1 hD1 => lq_L (fun v n => v = .int n) (fun n => .int (errZ n b p d)) (SqL.of el) (paired_map V.int (fun _ => rfl) ns) (by rw [List.length_map]; omega) hD1.1 (fun _ => rfl) (fun x n H' Q' hm' hx s' q' => ?_) (fun H2 s2 e2 => ?_)⟩⟩
    · subst hx
      exact ⟨_, rfl, _, rfl, _, rfl, _, rfl, n, b, p, d, rfl, b1, b2, by omega, d2, q' H' sameR⟩
    · have min := (hm _).mpr dotIn
      have ml : e ∈ ns.map fun n => errZ n b p d := List.mem_map.mpr ⟨_, min, he⟩
      refine ⟨D1, ns.map fun n => errZ n b p d, rfl, SqL.of (by rw [List.map_map]; exact e2), List.length_pos_of_mem ml, fun m hmm hle => ?_⟩
      obtain ⟨n, hn, en⟩ := List.mem_map.mp hmm
      have u1 := hmx n ((hm n).mp hn)
      have u2 := hle e ml
      have em : m = e := by omega
      subst em
      exact ⟨rfl, s1.trans s2⟩
  rintro σ1 H1 ⟨e1, s1⟩
  rw [e1]
  refine ⟨fun σ' H' => σ' = S (some (.int e)) none ∧ Same H H', ?_, ?_⟩
  · refine ⟨_, rfl, _, .tup, rfl, .inr (.inl ⟨rfl, _, SqT.of (s1 _ _ er)⟩), _, rfl, iteF ⟨_, rfl, r, _, rfl, .inr (SqT.of (s1 _ _ er)), rfl, _, rfl, iteC (by rfl) ?_⟩⟩
    have lb := low_b e0 b1
    have okT : LenOk (.tuple [.int (lowZ e b).1, .int (lowZ e b).2]) 47 := LenOk.tup (k := 20) fun z hz => by
      rcases List.mem_cons.mp hz with rfl | hz
      · exact LenOk.int (k := 19) (by decide) (by decide) (by omega)
      · rw [List.mem_singleton.mp hz]
        exact LenOk.int (k := 19) (by decide) (by decide) (by omega)
    have dp : (PyData.tuple [.int (lowZ e b).1, .int (lowZ e b).2]).depth ≤ 60 := by simp [PyData.depth, PyData.depthAll]
    have dq : ∀ {H' : Hp} {z : Addr}, H' z = some (.tup [.int (lowZ e b).1, .int (lowZ e b).2]) → Dq K H' (.ref z) (.tuple [.int (lowZ e b).1, .int (lowZ e b).2]) := fun ez => .tup (SqT.of ez) (by show 2 ≤ 10000; decide) (.cons (.int _) (.cons (.int _) .nil))
    refine ⟨_, rfl, r, _, 0, _, rfl, rfl, SqT.of (s1 _ _ er), atI_nat (j := 0) rfl, _, _, rfl, dq (s1 _ _ ex), .inl ⟨_, rfl⟩, okT.1, dp, Nat.le_trans okT.2 (by omega), ?_⟩
    refine ⟨_, rfl, _, rfl, e, b, rfl, e0, b1, b2, fun z hz => ⟨_, _, rfl, dq upd_same, .inl ⟨_, rfl⟩, okT.1, dp, Nat.le_trans okT.2 (by omega), rfl, _, rfl, iteC (by simp) ⟨rfl, s1.trans (same_new hz _)⟩⟩⟩
  rintro σ2 H2 ⟨e2, s2⟩
  rw [e2]
  refine ⟨fun σ' H' => σ' = S (some (.int e)) (some (.ref y)) ∧ H' = H2, ⟨_, rfl, r, _, 1, _, rfl, rfl, SqT.of (s2 _ _ er), atI_nat (j := 1) rfl, rfl, rfl⟩, ?_⟩
  rintro σ3 H3 ⟨e3, e4⟩
  rw [e3, e4]
  have ey2 := s2 _ _ ey
  have hs2 := hs.same s2
  refine ⟨fun σ' H' => σ' = S (some (.int e)) (some (.ref y)) ∧ H' = H2, ?_, ?_⟩
  · refine ⟨_, rfl, _, .tup, rfl, .inr (.inl ⟨rfl, _, SqT.of ey2⟩), _, rfl, iteF ⟨_, rfl, y, _, rfl, .inr (SqT.of ey2), _, rfl, a, _, rfl, .inr hs2, rfl, _, rfl, iteC ?_ ⟨rfl, rfl⟩⟩⟩
    rw [List.length_map, List.length_map, hl]; simp
  rintro σ4 H4 ⟨e5, e6⟩
  rw [e5, e6]
  refine ⟨fun σ' H' => σ' = S (some (.int e)) (some (.ref y)) ∧ Same H H', ?_, ?_⟩
  · refine ⟨_, rfl, y, rfl, ⟨_, SqT.of ey2⟩, fun D hD => lc_tup (K := K) (a := y) (xs := ks.map V.int) (fun k H' => Same H2 H' ∧ H' D = some (.lst [])) ⟨same_new hD.1 _, upd_same⟩ (fun k H' _ h => SqT.of (h.1 _ _ ey2)) ?_ ?_⟩
    · rintro j v H' hx ⟨s', e'⟩
      rw [List.getElem?_map] at hx
      cases hj : ks[j]? with
      | none => rw [hj] at hx; cases hx
      | some k =>
      rw [hj] at hx
      cases hx
      have kb := hk k (List.mem_of_getElem? hj)
      exact ⟨rfl, _, rfl, _, .int, rfl, rfl, _, rfl, iteF ⟨_, rfl, _, .int, rfl, rfl, _, rfl, iteF ⟨_, rfl, 0, k, rfl, rfl, _, rfl, iteB (decide_eq_true kb.1) ⟨_, rfl, k, d, rfl, rfl, _, rfl, iteC (by rw [decide_eq_true kb.2]; rfl) ⟨s', e'⟩⟩⟩⟩⟩
    · rintro H5 ⟨s5, e7⟩
      refine ⟨Nat.zero_le _, fun z hz => ⟨.list [], .list [], .lst (SqL.of (same_new hz _ _ _ e7)) .nil, .lst (SqL.of upd_same) .nil, shp_nil, shp_nil, _, rfl, iteC ?_ ⟨rfl, s2.trans (s5.trans (same_new hz _))⟩⟩⟩
      rw [SeqAt.eqv_refl _ (by simp [PyData.canLay0, PyData.canLayAll0])]
      rfl
  rintro σ5 H5 ⟨e7, s5⟩
  rw [e7]
  have ey5 := s5 _ _ ey
  have hs5 := hs.same s5
  refine ⟨_, rfl, _, rfl, y, a, ks.map V.int, ws.map V.int, rfl, .inr ⟨SqT.of ey5, hs5, fun D hD => ?_⟩⟩
  have dotSum : ∀ (ks ws : List Int), ((List.zip ks ws).map fun q => q.1 * q.2).sum = dotZ ks ws := by
    intro ks
    induction ks with
    | nil => intro ws; cases ws <;> rfl
    | cons k ks ih =>
      intro ws
      cases ws with
      | nil => rfl
      | cons w ws =>
        show (k * w :: ((List.zip ks ws).map fun q => q.1 * q.2)).sum = k * w + dotZ ks ws
        rw [List.sum_cons, ih]
  refine lc_zipT (K := K) (by rw [List.length_map, List.length_map, hl]) (fun i H' => Same H5 H' ∧ H' D = some (.lst ((((List.zip ks ws).map fun q => q.1 * q.2).take i).map V.int))) ⟨same_new hD.1 _, by rw [List.take_zero]; exact upd_same⟩ (fun i H' _ hp => ⟨SqT.of (hp.1 _ _ ey5), hs5.same hp.1⟩) ?_ ?_
  · rintro i u v T' H' eu ev hT ⟨sH, eD⟩
    rw [List.getElem?_map] at eu ev
    cases hj : ks[i]? with
    | none => rw [hj] at eu; cases eu
    | some k =>
    cases hw : ws[i]? with
    | none => rw [hw] at ev; cases ev
    | some wt =>
    rw [hj] at eu
    rw [hw] at ev
    cases eu; cases ev
    have kb := hk k (List.mem_of_getElem? hj)
    have il : i < ks.length := (List.getElem?_eq_some_iff.mp hj).1
    have gT := same_new hT (.tup [V.int k, V.int wt])
    have DT : D ≠ T' := ne_of_none eD hT
    refine ⟨T', _, rfl, SqT.of upd_same, rfl, _, [.int wt], rfl, .int wt, [], rfl, rfl, rfl, yes_then ?_⟩
    refine ⟨_, rfl, _, rfl, k, wt, rfl, rfl, .inl (by omega), _, gT _ _ eD, ?_, ?_, ?_⟩
    · rw [List.length_map, List.length_take]; omega
    · intro c o ec
      rw [upd_ne (ne_of_none ec hD.1)]
      exact gT _ _ (sH _ _ ec)
    · have ez : ((List.zip ks ws).map fun q => q.1 * q.2)[i]? = some (k * wt) := by
        rw [List.getElem?_map, (List.getElem?_zip_eq_some (z := (k, wt))).mpr ⟨hj, hw⟩]; rfl
      rw [List.take_succ, ez, List.map_append]
      exact upd_same
  · rintro H6 ⟨s6, e6'⟩
    rw [List.length_map] at e6'
    have el : ((List.zip ks ws).map fun q => q.1 * q.2).length ≤ ks.length := by rw [List.length_map, List.length_zip]; omega
    rw [List.take_of_length_le el] at e6'
    refine ⟨D, _, rfl, SqL.of e6', _, rfl, _, rfl, _, rfl, _, b, p, d, rfl, b1, b2, by omega, d2, _, rfl, rfl, ?_⟩
    rw [dotSum, he, decide_eq_true rfl]
    exact q H6 (s5.trans s6)
end
end Mk
namespace Mk
open PySem L2 PyProof.Rows
section
variable {P : Program} {w : World} {K : PySem.W.Frag} {mg : Str → Option Value} {base : Heap}
/-- what is no weighing, or too wide -/
def spWoE (K : PySem.W.Frag) (CS CD CT CW : Addr) : Sp := fun vs H Q E => ∃ (vw vb vp vd : V) (dw db dp dd : PyData), vs = [vw, vb, vp, vd] ∧ Dq K H vw dw ∧ Dq K H vb db ∧ Dq K H vp dp ∧ Dq K H vd dd ∧
  ((weighOk dw db dp = false ∧ ∀ H', Same H H' → E (.ref CS) none H') ∨ (weighOk dw db dp = true ∧ isNull db = true ∧ ∀ H', Same H H' → E (.ref CD) none H') ∨
    (weighOk dw db dp = true ∧ isNull db = false ∧ inD dd 1 65535 = false ∧ ∀ dx H', Same H H' → E (.ref CT) (some dx) H') ∨
    (weighOk dw db dp = true ∧ isNull db = false ∧ inD dd 1 65535 = true ∧ ∃ (a : Addr) (ws : List Int) (d : Int), vw = .ref a ∧ vd = .int d ∧ SqT K H a (ws.map V.int) ∧ ws.length ≤ 1000 ∧ 0 ≤ d ∧ d ≤ 100000 ∧ 3000 < widthZ ws d ∧ ∀ H', Same H H' → E (.ref CW) none H'))
set_option maxHeartbeats 2000000 in
theorem ok_woE {f c gC gWd CS CD CT CW : Addr} {dC dWd : FuncData} {kV doc pm ct oc : Value} {an od : Option Addr} {osl : Array (Option Value)} (lk : K.lookup f = some ⟨oc, od, .func (PySem.W.fnOf "worst" "worst" (defArgs sWo) (defBody sWo) (defScope sWo) .none kV doc pm an (.ref c) ct), osl⟩) (hcd : PySem.W.codeIn K (.ref c) "worst" = true) (M : Tc mg)
    (GC : FnOk P w K mg base (CXE P w) 4 gC dC nCW (spCW K CS CD CT)) (bC : Binds K dC nCW []) (kC : PySem.W.keepIn K (.ref gC) = true) (mC : mg "check_weighing" = some (.ref gC))
    (GW : FnOk P w K mg base (CXE P w) 2 gWd dWd nCWd (spCWd K CW)) (bW : Binds K dWd nCWd []) (kW : PySem.W.keepIn K (.ref gWd) = true) (mW : mg "check_width" = some (.ref gWd)) :
    FnOk P w K mg base (CXE P w) 6 f (PySem.W.fnOf "worst" "worst" (defArgs sWo) (defBody sWo) (defScope sWo) .none kV doc pm an (.ref c) ct) ["weights", "by", "plus", "depth"] (spWoE K CS CD CT CW) := by
  refine fn_of lk hcd scWo (fun vs H Q E h => ?_) (fun A outer s H vs Q E hr h => ?_)
  · obtain ⟨vw, vb, vp, vd, dw, db, dp, dd, rfl, _⟩ := h
    rfl
  obtain ⟨vw, vb, vp, vd, dw, db, dp, dd, rfl, hw, hb, hp, hd, q⟩ := h
  have hr4 : Room 4 _ := hr.mono (by decide)
  have hr2 : Room 2 _ := hr.mono (by decide)
  obtain ⟨uw, huw, ruw⟩ := M.widest
  have body : ∀ t, QSs (cxOf (CXE P w) P w K mg base nWo "worst" (defScope sWo) f (.ref c) A outer s H E) (defBody sWo) t → t { nx := fun _ H' => Q .non H', rt := Q } (L2.start nWo [vw, vb, vp, vd]) H →
      ∃ t, PSs (cxOf (CXE P w) P w K mg base nWo "worst" (defScope sWo) f (.ref c) A outer s H E) (defBody sWo) t ∧ t { nx := fun _ H' => Q .non H', rt := Q } (L2.start nWo [vw, vb, vp, vd]) H := fun t h1 h2 => ⟨t, h1.r, h2⟩
  refine body _ (qss_cut (qs (ps_expr (pe_call GC hr4 rfl mC kC bC .nil (pass_cx fun _ _ _ h => h) (pa_cons (pv 0) (pa_cons (pv 1) (pa_cons (pv 2) (pa_cons (pv 3) pa_nil))))) (sw_no rfl)))
    (qss_cut (qs (ps_expr (pe_call GW hr2 rfl mW kW bW .nil (pass_cx fun _ _ _ h => h) (pa_cons (pv 0) (pa_cons (pv 3) (pa_cons (pe_glob rfl huw ruw) pa_nil)))) (sw_no rfl))) qss_never)) ?_
  let S : L2.St := [some vw, some vb, some vp, some vd, none, none, none]
  rcases q with ⟨k1, q⟩ | ⟨k1, k2, q⟩ | ⟨k1, k2, k3, q⟩ | ⟨k1, k2, k3, a, ws, d, rfl, rfl, hs, hl, d0, d1, wide, q⟩
  · refine ⟨fun _ _ => False, ⟨_, rfl, _, rfl, _, rfl, _, rfl, vw, vb, vp, vd, dw, db, dp, dd, rfl, hw, hb, hp, hd, fun _ => q, fun z => ?_, fun z => ?_, fun z => ?_⟩, fun _ _ z => z.elim⟩ <;> (rw [k1] at z; cases z)
  · refine ⟨fun _ _ => False, ⟨_, rfl, _, rfl, _, rfl, _, rfl, vw, vb, vp, vd, dw, db, dp, dd, rfl, hw, hb, hp, hd, fun z => ?_, fun _ _ => q, fun _ z => ?_, fun _ z => ?_⟩, fun _ _ z => z.elim⟩
    · rw [k1] at z; cases z
    · rw [k2] at z; cases z
    · rw [k2] at z; cases z
  · refine ⟨fun _ _ => False, ⟨_, rfl, _, rfl, _, rfl, _, rfl, vw, vb, vp, vd, dw, db, dp, dd, rfl, hw, hb, hp, hd, fun z => ?_, fun _ z => ?_, fun _ _ _ => q, fun _ _ z => ?_⟩, fun _ _ z => z.elim⟩
    · rw [k1] at z; cases z
    · rw [k2] at z; cases z
    · rw [k3] at z; cases z
  · refine ⟨fun σ' H' => σ' = [some (.ref a), some vb, some vp, some (.int d), none, none, none] ∧ Same H H', ⟨_, rfl, _, rfl, _, rfl, _, rfl, .ref a, vb, vp, .int d, dw, db, dp, dd, rfl, hw, hb, hp, hd, fun z => ?_, fun _ z => ?_, fun _ _ z => ?_, fun _ _ _ H' s' => ⟨rfl, s'⟩⟩, ?_⟩
    · rw [k1] at z; cases z
    · rw [k2] at z; cases z
    · rw [k3] at z; cases z
    · rintro σ1 H1 ⟨e1, s1⟩
      rw [e1]
      exact ⟨fun _ _ => False, ⟨_, rfl, _, rfl, a, ws, d, 3000, rfl, hs.same s1, hl, d0, d1, fun _ H' s' => q H' (s1.trans s'), fun z => absurd wide z⟩, fun _ _ z => z.elim⟩
end
end Mk
namespace Mk
open PySem L2 PyProof.Rows
abbrev sLRf : Stmt := top 46
def g3 : List Value → List Value → List Value := fun us ws => match ws with | [w0, w1, w2] => us ++ [w0, w1, w2] | _ => []
def gV3 : List V → List V → List V := fun vs zs => match zs with | [z0, z1, z2] => vs ++ [z0, z1, z2] | _ => []
theorem SameP.of {Pt : Addr} {H H' : Hp} (s : Same H H') : SameP Pt H H' := fun b o e _ => s b o e
theorem SameP.trans {Pt : Addr} {H H1 H2 : Hp} (s : SameP Pt H H1) (t : SameP Pt H1 H2) : SameP Pt H H2 := fun b o e n => t b o (s b o e n) n
theorem tabO_same {Pt : Addr} {H H' : Hp} (s : Same H H') (h : TabO H Pt lamPos lamQual) : TabO H' Pt lamPos lamQual := by
  rcases h with z | ⟨c', z1, z2⟩
  · exact .inl (s _ _ z)
  · exact .inr ⟨c', s _ _ z1, s _ _ z2⟩
/-- what the refusals are, and how the law tells them -/
structure Te (K : PySem.W.Frag) (CS CD CT CW CP : Addr) : Prop where
  oS : ClsObj K CS
  oD : ClsObj K CD
  oT : ClsObj K CT
  oW : ClsObj K CW
  oP : ClsObj K CP
  xS : XCls K CS
  xD : XCls K CD
  xT : XCls K CT
  xW : XCls K CW
  kSS : PySem.W.kitOne K (.ref CS) (.ref CS) = some true
  kSD : PySem.W.kitOne K (.ref CS) (.ref CD) = some false
  kST : PySem.W.kitOne K (.ref CS) (.ref CT) = some false
  kSW : PySem.W.kitOne K (.ref CS) (.ref CW) = some false
  kSP : PySem.W.kitOne K (.ref CS) (.ref CP) = some true
  kDS : PySem.W.kitOne K (.ref CD) (.ref CS) = some false
  kDD : PySem.W.kitOne K (.ref CD) (.ref CD) = some true
  kDT : PySem.W.kitOne K (.ref CD) (.ref CT) = some false
  kDW : PySem.W.kitOne K (.ref CD) (.ref CW) = some false
  kDP : PySem.W.kitOne K (.ref CD) (.ref CP) = some false
  kTS : PySem.W.kitOne K (.ref CT) (.ref CS) = some false
  kTD : PySem.W.kitOne K (.ref CT) (.ref CD) = some false
  kTT : PySem.W.kitOne K (.ref CT) (.ref CT) = some true
  kTW : PySem.W.kitOne K (.ref CT) (.ref CW) = some false
  kTP : PySem.W.kitOne K (.ref CT) (.ref CP) = some true
  kWS : PySem.W.kitOne K (.ref CW) (.ref CS) = some false
  kWD : PySem.W.kitOne K (.ref CW) (.ref CD) = some false
  kWT : PySem.W.kitOne K (.ref CW) (.ref CT) = some false
  kWW : PySem.W.kitOne K (.ref CW) (.ref CW) = some true
  kWP : PySem.W.kitOne K (.ref CW) (.ref CP) = some true
  cls : Classes K [CS, CD, CT, CW]
  mS : PySem.W.mroIn K CS (.ref CS) = some true
  mDS : PySem.W.mroIn K CD (.ref CS) = some false
  mD : PySem.W.mroIn K CD (.ref CD) = some true
  mTS : PySem.W.mroIn K CT (.ref CS) = some false
  mTD : PySem.W.mroIn K CT (.ref CD) = some false
  mT : PySem.W.mroIn K CT (.ref CT) = some true
  mWS : PySem.W.mroIn K CW (.ref CS) = some false
  mWD : PySem.W.mroIn K CW (.ref CD) = some false
  mWT : PySem.W.mroIn K CW (.ref CT) = some false
  mW : PySem.W.mroIn K CW (.ref CW) = some true
/-- how worst ends, in the law's letters -/
inductive OutOf (K : PySem.W.Frag) (H : Hp) : V → V → V → V → Str → Prop
  | S {vw vb vp vd : V} {dw db dp dd : PyData} : Dq K H vw dw → Dq K H vb db → Dq K H vp dp → Dq K H vd dd → weighOk dw db dp = false → OutOf K H vw vb vp vd "SP"
  | D {vw vb vp vd : V} {dw db dp dd : PyData} : Dq K H vw dw → Dq K H vb db → Dq K H vp dp → Dq K H vd dd → weighOk dw db dp = true → isNull db = true → OutOf K H vw vb vp vd "D"
  | T {vw vb vp vd : V} {dw db dp dd : PyData} : Dq K H vw dw → Dq K H vb db → Dq K H vp dp → Dq K H vd dd → weighOk dw db dp = true → isNull db = false → inD dd 1 65535 = false → OutOf K H vw vb vp vd "TP"
  | W {a : Addr} {vb vp : V} {d : Int} {ws : List Int} {dw db dp : PyData} : Dq K H (.ref a) dw → Dq K H vb db → Dq K H vp dp → weighOk dw db dp = true → isNull db = false → inD (.int d) 1 65535 = true → SqT K H a (ws.map V.int) → ws.length ≤ 1000 → 0 ≤ d → d ≤ 100000 → 3000 < widthZ ws d → OutOf K H (.ref a) vb vp (.int d) "WP"
  | N {a : Addr} {b p d : Int} {ws : List Int} : SqT K H a (ws.map V.int) → Fine ws d → 0 < ws.length → 0 < b → b ≤ 100000 → -65535 ≤ p → p ≤ 65535 → d ≤ 65535 → OutOf K H (.ref a) (.int b) (.int p) (.int d) Str.empty
/-- the error, or None, and what isinstance tells of it -/
def EIs (K : PySem.W.Frag) (H : Hp) (x : V) (C : Addr) (b : Bool) : Prop := (x = .non ∧ b = false) ∨ ∃ e d D, x = .ref e ∧ IsExc H e D d ∧ XCls K D ∧ PySem.W.kitOne K (.ref D) (.ref C) = some b
theorem EIs.same {K : PySem.W.Frag} {H H' : Hp} {x : V} {C : Addr} {b : Bool} (s : Same H H') (h : EIs K H x C b) : EIs K H' x C b := by
  rcases h with h | ⟨e, d, D, r, ⟨oe, e1, e2⟩, z⟩
  · exact .inl h
  · exact .inr ⟨e, d, D, r, ⟨oe, s _ _ e1, e2⟩, z⟩
/-- the letters -/
def letters (bs : List Bool) (i : Nat) : List Str := ((List.range i).filter fun j => bs.getD j false).map fun j => (⟨#[(("SDTW" : Str).cps.toList.getD j 0)]⟩ : Str)
def wordOf (bs : List Bool) (p : Bool) : Str := Txt.join "" (letters bs 4) ++ (if p then ("P" : Str) else Str.empty)
theorem letters_succ (bs : List Bool) (i : Nat) : letters bs (i + 1) = letters bs i ++ (if bs.getD i false = true then [(⟨#[(("SDTW" : Str).cps.toList.getD i 0)]⟩ : Str)] else []) := by
  unfold letters
  rw [List.range_succ, List.filter_append, List.map_append]
  congr 1
  cases e : bs.getD i false with
  | true => rw [List.filter_cons, e]; rfl
  | false => rw [List.filter_cons, e]; rfl
theorem letters_len (bs : List Bool) (i : Nat) : (letters bs i).length ≤ i := by
  unfold letters
  rw [List.length_map]
  exact Nat.le_trans (List.length_filter_le _ _) (by rw [List.length_range]; exact Nat.le_refl _)
section
variable {P : Program} {w : World} {K : PySem.W.Frag} {mg : Str → Option Value} {base : Heap}
abbrev nLRf : List Str := ["_law_weights", "_law_under", "_law_extra", "_law_deep", "_law_error", "e", "_law_kinds", "_law_k"]
theorem scLRf : FnScope nLRf ["_law_weights", "_law_under", "_law_extra", "_law_deep"] (defScope sLRf) := ⟨rfl, rfl, rfl, by decide +kernel, rfl, by decide +kernel, by decide +kernel⟩
def spLRf (K : PySem.W.Frag) (Pt : Addr) : Sp := fun vs H Q _ => ∃ (vw vb vp vd : V) (z : Str), vs = [vw, vb, vp, vd] ∧ TabO H Pt lamPos lamQual ∧ OutOf K H vw vb vp vd z ∧ ∀ H', SameP Pt H H' → TabO H' Pt lamPos lamQual → Q (.str z) H'
set_option maxHeartbeats 2000000 in
theorem ok_lrf {f gW Pt CS CD CT CW CP : Addr} {fd dW : FuncData} (F : Fun K "_law_refusal" "_law_refusal" sLRf f fd) (T : Tb mg) (TE : Te K CS CD CT CW CP)
    (GW : FnOk P w K mg base (CXE P w) 6 gW dW ["weights", "by", "plus", "depth"] (fun vs H Q E => spWo K Pt vs H Q E ∨ spWoE K CS CD CT CW vs H Q E)) (kbW : KBinds K dW ["weights", "by", "plus", "depth"] ["by", "plus", "depth"] g3 gV3) (kW : PySem.W.keepIn K (.ref gW) = true) (mW : mg "worst" = some (.ref gW))
    (mS : mg "NoStage" = some (.ref CS)) (mD : mg "NoDivisor" = some (.ref CD)) (mT : mg "NoTone" = some (.ref CT)) (mTW : mg "TooWide" = some (.ref CW)) (mP : mg "PixelError" = some (.ref CP)) :
    FnOk P w K mg base CX0 7 f fd ["_law_weights", "_law_under", "_law_extra", "_law_deep"] (spLRf K Pt) := by
  refine F.okQ scLRf (fun vs H Q E h => ?_) (fun cdv A outer s H vs Q E hr h => ?_)
  · obtain ⟨vw, vb, vp, vd, z, rfl, _⟩ := h
    rfl
  obtain ⟨vw, vb, vp, vd, z, rfl, tO, out, q⟩ := h
  refine ⟨_, (qss_cut (ps_setQ (i := 4) scLRf.nd rfl (Or.inl rfl) q_non (by rfl))
    (qss_cut (qs_tryU (i := 5) rfl rfl scLRf.nd rfl rfl)
    (qss_cut (ps_setQ (i := 6) scLRf.nd rfl (Or.inr rfl) (q_lst (qc (qe (pe_callB (call_isiE TE.oS) rfl T.isi boot_isinstance (pa_cons (pv 4) (pa_cons (pe_glob (v := .ref CS) rfl mS rfl) pa_nil)))) (qc (qe (pe_callB (call_isiE TE.oD) rfl T.isi boot_isinstance (pa_cons (pv 4) (pa_cons (pe_glob (v := .ref CD) rfl mD rfl) pa_nil))))
      (qc (qe (pe_callB (call_isiE TE.oT) rfl T.isi boot_isinstance (pa_cons (pv 4) (pa_cons (pe_glob (v := .ref CT) rfl mT rfl) pa_nil)))) qa_nil)))) (by rfl))
    (qss_cut (qs_app (qv 6) (qe (pe_callB (call_isiE TE.oW) rfl T.isi boot_isinstance (pa_cons (pv 4) (pa_cons (pe_glob (v := .ref CW) rfl mTW rfl) pa_nil)))))
    (qss1 (qs_ret (q_op op_add_str (qe (pe_join pe_str (pe_lc (own := [("_law_k", 7)]) (g := gName 7) (by rfl) scLRf.nd (pi_range1 rfl T.range (pa_cons pe_int pa_nil)) (blkOk_by (own := [("_law_k", 7)]) (N := nLRf) (sc := defScope sLRf) (by decide +kernel)) (fun _ _ _ _ _ => pg_name (i := 7) scLRf.nd rfl (Or.inl rfl))
        (fun _ _ _ _ _ => pts_one (pt_val (pe_ix (ix_listK (K := K)) (pv 6) (pv 7) (fun _ _ => rfl)))) (fun _ _ _ _ _ => pe_ix ix_str pe_str (pv 7) (fun _ _ => rfl)))))
      (q_op op_strB q_str (qe (pe_callTy call_int1 rfl T.int bt_int (pa_cons (pe_callB (call_isiE TE.oP) rfl T.isi boot_isinstance (pa_cons (pv 4) (pa_cons (pe_glob (v := .ref CP) rfl mP rfl) pa_nil))) pa_nil))))))))))), ?_⟩
  refine ⟨fun σ' H' => σ' = [some vw, some vb, some vp, some vd, some .non, none, none, none] ∧ H' = H, ⟨rfl, rfl⟩, ?_⟩
  rintro σ0 H0 ⟨e0, e0'⟩
  rw [e0, e0']
  refine ⟨fun σ' H' => ∃ (w0 w1 w2 w3 : Option V) (x : V) (b1 b2 b3 b4 b5 : Bool), σ' = [w0, w1, w2, w3, some x, none, none, none] ∧ SameP Pt H H' ∧ TabO H' Pt lamPos lamQual ∧ EIs K H' x CS b1 ∧ EIs K H' x CD b2 ∧ EIs K H' x CT b3 ∧ EIs K H' x CW b4 ∧ EIs K H' x CP b5 ∧ wordOf [b1, b2, b3, b4] b5 = z, ?_, ?_⟩
  · refine ⟨fun c dd H1 => ∃ (C : Addr) (b1 b2 b3 b4 b5 : Bool), c = .ref C ∧ Same H H1 ∧ XCls K C ∧ PySem.W.kitOne K (.ref C) (.ref CS) = some b1 ∧ PySem.W.kitOne K (.ref C) (.ref CD) = some b2 ∧ PySem.W.kitOne K (.ref C) (.ref CT) = some b3 ∧ PySem.W.kitOne K (.ref C) (.ref CW) = some b4 ∧ PySem.W.kitOne K (.ref C) (.ref CP) = some b5 ∧ wordOf [b1, b2, b3, b4] b5 = z ∧ XI.Comes K C [CS, CD, CT, CW], _,
      fun pn xe rs pas => (qss1 (qs (ps_expr (qr (q_callK GW hr rfl mW kW kbW pas (qc (qv 0) qa_nil) (qk (qv 1) (qk (qv 2) (qk (qv 3) qk_nil))))) (sw_no rfl)))), ?_, ?_⟩
    · cases out with
      | S hw hb hp hd k => exact ⟨_, rfl, _, rfl, _, rfl, _, rfl, .inr ⟨vw, vb, vp, vd, _, _, _, _, rfl, hw, hb, hp, hd, .inl ⟨k, fun H' s' => ⟨CS, _, _, _, _, _, rfl, s', TE.xS, TE.kSS, TE.kSD, TE.kST, TE.kSW, TE.kSP, by decide +kernel, .here TE.mS⟩⟩⟩⟩
      | D hw hb hp hd k1 k2 => exact ⟨_, rfl, _, rfl, _, rfl, _, rfl, .inr ⟨vw, vb, vp, vd, _, _, _, _, rfl, hw, hb, hp, hd, .inr (.inl ⟨k1, k2, fun H' s' => ⟨CD, _, _, _, _, _, rfl, s', TE.xD, TE.kDS, TE.kDD, TE.kDT, TE.kDW, TE.kDP, by decide +kernel, .later TE.mDS (.here TE.mD)⟩⟩)⟩⟩
      | T hw hb hp hd k1 k2 k3 => exact ⟨_, rfl, _, rfl, _, rfl, _, rfl, .inr ⟨vw, vb, vp, vd, _, _, _, _, rfl, hw, hb, hp, hd, .inr (.inr (.inl ⟨k1, k2, k3, fun dx H' s' => ⟨CT, _, _, _, _, _, rfl, s', TE.xT, TE.kTS, TE.kTD, TE.kTT, TE.kTW, TE.kTP, by decide +kernel, .later TE.mTS (.later TE.mTD (.here TE.mT))⟩⟩))⟩⟩
      | W hw hb hp k1 k2 k3 hs hl d0 d1 wide => exact ⟨_, rfl, _, rfl, _, rfl, _, rfl, .inr ⟨_, vb, vp, _, _, _, _, _, rfl, hw, hb, hp, .int _, .inr (.inr (.inr ⟨k1, k2, k3, _, _, _, rfl, rfl, hs, hl, d0, d1, wide, fun H' s' => ⟨CW, _, _, _, _, _, rfl, s', TE.xW, TE.kWS, TE.kWD, TE.kWT, TE.kWW, TE.kWP, by decide +kernel, .later TE.mWS (.later TE.mWD (.later TE.mWT (.here TE.mW)))⟩⟩))⟩⟩
      | N hs fi hne b1 b2 p1 p2 d2 => exact ⟨_, rfl, _, rfl, _, rfl, _, rfl, .inl ⟨_, _, _, _, _, rfl, hs, fi, hne, b1, b2, p1, p2, d2, tO, fun r x y ks H' e sP tO' er ex ey hl hk he hm => ⟨_, _, _, _, .non, false, false, false, false, false, rfl, sP, tO', .inl ⟨rfl, rfl⟩, .inl ⟨rfl, rfl⟩, .inl ⟨rfl, rfl⟩, .inl ⟨rfl, rfl⟩, .inl ⟨rfl, rfl⟩, by decide +kernel⟩⟩⟩
    · rintro c dd H1 ⟨C, b1, b2, b3, b4, b5, rfl, s1, xc, k1, k2, k3, k4, k5, ew, cm⟩
      refine ⟨C, CS, [CD, CT, CW], rfl, TE.cls, cm, fun a oe fa xo => ?_⟩
      have sa := same_new fa (.frz oe (.own a))
      refine ⟨_, fun pn => (q_tup (qc (qe (pe_glob (v := .ref CS) rfl mS rfl)) (qc (qe (pe_glob (v := .ref CD) rfl mD rfl)) (qc (qe (pe_glob (v := .ref CT) rfl mT rfl)) (qc (qe (pe_glob (v := .ref CW) rfl mTW rfl)) qa_nil))))), Nat.le_of_ble_eq_true rfl, fun t ht => ⟨t, rfl, upd_same, same_new ht _ _ _ upd_same, _, fun pn => qss1 (qs_set (i := 4) scLRf.nd rfl (Or.inl rfl) (qv 5)), ?_⟩⟩
      have st := same_new ht (.tup ([CS, CD, CT, CW].map V.ref))
      have sH := s1.trans (sa.trans st)
      have ex : IsExc (upd (upd H1 a (.frz oe (.own a))) t (.tup ([CS, CD, CT, CW].map V.ref))) a C dd := ⟨oe, st _ _ upd_same, xo⟩
      exact ⟨_, rfl, none, none, none, none, .ref a, b1, b2, b3, b4, b5, rfl, SameP.of sH, tabO_same sH tO, .inr ⟨a, dd, C, rfl, ex, xc, k1⟩, .inr ⟨a, dd, C, rfl, ex, xc, k2⟩, .inr ⟨a, dd, C, rfl, ex, xc, k3⟩, .inr ⟨a, dd, C, rfl, ex, xc, k4⟩, .inr ⟨a, dd, C, rfl, ex, xc, k5⟩, ew⟩
  rintro σ1 H1 ⟨w0, w1, w2, w3, x, b1, b2, b3, b4, b5, e1, sP, tO1, E1, E2, E3, E4, E5, ew⟩
  rw [e1]
  refine ⟨fun σ' H' => ∃ l, σ' = [w0, w1, w2, w3, some x, none, some (.ref l), none] ∧ H1 l = none ∧ H' = upd H1 l (.lst [.bl b1, .bl b2, .bl b3]), ⟨_, rfl, x, b1, rfl, E1, _, rfl, x, b2, rfl, E2, _, rfl, x, b3, rfl, E3, Nat.le_of_ble_eq_true rfl, fun l hl => ⟨l, rfl, hl, rfl⟩⟩, ?_⟩
  rintro σ2 H2 ⟨l, e2, hl, eH⟩
  rw [e2]
  have s2 : Same H1 H2 := by rw [eH]; exact same_new hl _
  have el : H2 l = some (.lst [.bl b1, .bl b2, .bl b3]) := by rw [eH]; exact upd_same
  refine ⟨fun σ' H' => σ' = [w0, w1, w2, w3, some x, none, some (.ref l), none] ∧ H' = upd H2 l (.lst [.bl b1, .bl b2, .bl b3, .bl b4]), ⟨_, rfl, .inl ⟨rfl, _, SqL.of el⟩, _, rfl, x, b4, rfl, E4.same s2, l, _, _, rfl, rfl, el, by show 3 < sizeLine; decide, rfl, rfl⟩, ?_⟩
  rintro σ3 H3 ⟨e3, e4⟩
  rw [e3]
  have el3 : H3 l = some (.lst ([b1, b2, b3, b4].map V.bl)) := by rw [e4]; exact upd_same
  have s3 : Same H1 H3 := fun b o eb => by rw [e4, upd_ne (ne_of_none eb hl)]; exact s2 b o eb
  refine ⟨⟨_, rfl⟩, 4, rfl, by decide, by decide, fun D hD => lc_range (lo := 0) (n := 4) (fun i H' => Same H3 H' ∧ H' D = some (.lst ((letters [b1, b2, b3, b4] i).map V.str))) ⟨same_new hD.1 _, upd_same⟩ (fun i H' hi p => ?_) (fun H' p => ?_)⟩
  · obtain ⟨s', e'⟩ := p
    have eb : [b1, b2, b3, b4][i]? = some ([b1, b2, b3, b4].getD i false) := by
      rw [List.getD_eq_getElem?_getD, List.getElem?_eq_getElem hi]; rfl
    refine ⟨rfl, _, rfl, _, rfl, l, _, 0 + (i : Int), _, rfl, rfl, SqL.of (s' _ _ el3), by rw [Int.zero_add]; exact atI_nat (by rw [List.getElem?_map, eb]; rfl), _, rfl, ?_⟩
    cases ec : [b1, b2, b3, b4].getD i false with
    | false =>
      refine iteF ⟨s', ?_⟩
      rw [letters_succ, ec, if_neg (by decide), List.append_nil]
      exact e'
    | true =>
      have ex : ("SDTW" : Str).cps.toList[i]? = some (("SDTW" : Str).cps.toList.getD i 0) := by
        have hz : i < ("SDTW" : Str).cps.toList.length := by rw [show ("SDTW" : Str).cps.toList.length = 4 by decide +kernel]; exact hi
        rw [List.getD_eq_getElem?_getD, List.getElem?_eq_getElem hz]; rfl
      refine iteT ⟨_, rfl, _, 0 + (i : Int), _, rfl, rfl, by decide +kernel, by rw [Int.zero_add]; exact atI_nat ex, _, e', ?_, ?_, ?_⟩
      · rw [List.length_map]
        exact Nat.lt_of_le_of_lt (letters_len _ _) (Nat.lt_trans hi (by decide))
      · intro b o eb'
        rw [upd_ne (ne_of_none eb' hD.1)]
        exact s' b o eb'
      · rw [letters_succ, ec, if_pos rfl, List.map_append]
        exact upd_same
  · obtain ⟨s', e'⟩ := p
    have sz : ((letters [b1, b2, b3, b4] 4).map (·.length)).sum + (letters [b1, b2, b3, b4] 4).length * ("" : Str).length ≤ 16777216 := by
      cases b1 <;> cases b2 <;> cases b3 <;> cases b4 <;> decide +kernel
    have sz2 : (Txt.join "" (letters [b1, b2, b3, b4] 4)).length + (if b5 then ("P" : Str) else Str.empty).length ≤ sizeLine := by
      cases b1 <;> cases b2 <;> cases b3 <;> cases b4 <;> cases b5 <;> decide +kernel
    have fin : Q (.str (Txt.join "" (letters [b1, b2, b3, b4] 4) ++ (if b5 then ("P" : Str) else Str.empty))) H' := by
      have z := q H' (SameP.trans sP (SameP.of (s3.trans s'))) (tabO_same (s3.trans s') tO1)
      rw [← ew] at z
      exact z
    exact ⟨_, D, _, rfl, rfl, .inl (SqL.of e'), sz, _, rfl, x, b5, rfl, E5.same (s3.trans s'), .inr ⟨b5, rfl, _, b5, rfl, rfl, _, _, rfl, rfl, sz2, fin⟩⟩
end
end Mk
namespace Mk
open PySem L2 PyProof.Rows
abbrev sLBw : Stmt := top 47
theorem at_mem2 {vs : List V} {k : Int} (h0 : 0 ≤ k) (h : k < (vs.length : Int)) : ∃ v ∈ vs, atI vs k = some v := by
  have hk : k.toNat < vs.length := by omega
  have ek : k = ((k.toNat : Nat) : Int) := by omega
  have q : atI vs ((k.toNat : Nat) : Int) = some vs[k.toNat] := atI_nat (List.getElem?_eq_getElem hk)
  rw [← ek] at q
  exact ⟨vs[k.toNat], List.getElem_mem hk, q⟩
theorem DqAll.set {K : PySem.W.Frag} {H : Hp} {v : V} {d : PyData} (hv : Dq K H v d) : ∀ {xs : List V} {ds : List PyData} (j : Nat), DqAll K H xs ds → DqAll K H (xs.set j v) (ds.set j d)
  | _, _, _, .nil => .nil
  | _, _, 0, .cons _ t => .cons hv t
  | _, _, j + 1, .cons h t => .cons h (DqAll.set hv j t)
theorem ixN_in {n : Nat} {i : Int} (h0 : 0 ≤ i) (h : i < n) : ixN n i = some i.toNat := by
  unfold ixN
  rw [if_pos h0, if_pos h]
theorem Pen.put {p c D : Addr} {ns : List Int} {i i1 j : Int} {H H1 : Hp} (s : Pen p c ns i i1 H H1) (h0 : PenAt H p c ns i j) (hD : H D = none) (o : HO) : Pen p c ns i i1 H (upd H1 D o) := by
  obtain ⟨j, h⟩ := s.pen
  have hp := ne_of_none h0.at_ hD
  have hc := ne_of_none h0.cells hD
  exact ⟨fun b o e n => by rw [upd_ne (ne_of_none e hD)]; exact s.old _ _ e n, ⟨j, (upd_ne hp).trans h.at_, (upd_ne hc).trans h.cells, h.low, h.high⟩, s.up⟩
def badD : V → PyData
  | .int n => .int n
  | .bl b => .bool b
  | .str z => .str z
  | .non => .none
  | _ => .tuple [.int 1]
section
variable {P : Program} {w : World} {K : PySem.W.Frag} {mg : Str → Option Value} {base : Heap}
abbrev nLBw : List Str := ["_law_pen_here", "_law_some", "_law_k"]
theorem scLBw : FnScope nLBw ["_law_pen_here"] (defScope sLBw) := ⟨rfl, rfl, rfl, by decide +kernel, rfl, by decide +kernel, by decide +kernel⟩
def spLBw (K : PySem.W.Frag) : Sp := fun vs H Q _ => ∃ (p c : Addr) (ns : List Int) (i j : Int), vs = [.ref p] ∧ PenAt H p c ns i j ∧ i < 980000 ∧
  ∀ (t : Addr) (dw : PyData) (i' : Int) (H' : Hp), Pen p c ns i i' H H' → i' ≤ i + 20 → Dq K H' (.ref t) dw → weightsD dw 25 1000 = false → Q (.ref t) H'
set_option maxHeartbeats 2000000 in
theorem ok_lbw {f gD : Addr} {fd dD : FuncData} (F : Fun K "_law_bad_weights" "_law_bad_weights" sLBw f fd) (T : Tb mg) (G : FnOk P w K mg base CX0 1 gD dD ["_law_pen_here", "_law_many"] (spDraw 1000000)) (bG : Binds K dD ["_law_pen_here", "_law_many"] []) (kG : PySem.W.keepIn K (.ref gD) = true) (mG : mg "_law_draw" = some (.ref gD)) :
    FnOk P w K mg base CX0 2 f fd ["_law_pen_here"] (spLBw K) := by
  refine F.okQ scLBw (fun vs H Q E h => ?_) (fun cdv A outer s H vs Q E hr h => ?_)
  · obtain ⟨p, c, ns, i, j, rfl, _⟩ := h
    rfl
  obtain ⟨p, c, ns, i, j, rfl, hp, hi, q⟩ := h
  have big : sizeLine = 16777216 := sizeLine_eq
  have hi0 := hp.low
  refine ⟨_, (qss_cut (qs (ps_setLc (i := 1) (own := [("_law_k", 2)]) (g := gName 2) (by rfl) scLBw.nd rfl rfl (by rfl) (pi_range1 rfl T.range (pa_cons (pe_op op_add pe_int (pe_call G hr rfl mG kG bG .nil pass0 (pa_cons (pv 0) (pa_cons pe_int pa_nil)))) pa_nil)) (blkOk_by (own := [("_law_k", 2)]) (N := nLBw) (sc := defScope sLBw) (by decide +kernel))
      (fun _ _ _ _ _ => pg_name (i := 2) scLBw.nd rfl (Or.inl rfl)) (fun _ _ _ _ _ => pts_nil) (fun _ _ _ _ _ => pe_op op_sub (pe_call G hr rfl mG kG bG .nil pass0 (pa_cons (pv 0) (pa_cons pe_int pa_nil))) pe_int)))
    (qss_cut (qs (ps_asg (qr (q_ix ix_list (q_lst (qc q_int (qc (q_un un_neg q_int) (qc q_bl (qc q_non (qc q_str (qc (q_tup (qc q_int qa_nil)) qa_nil))))))) (q_call G hr rfl mG kG bG .nil pass0 (qc (qv 0) (qc q_int qa_nil))) (fun _ _ => rfl)))
      (pg_sub (pv 1) (pe_call G hr rfl mG kG bG .nil pass0 (pa_cons (pv 0) (pa_cons (pe_callB call_len_seq rfl T.len PySem.boot_len (pa_cons (pv 1) pa_nil)) pa_nil))) set_list)))
    (qss1 (qs_ret (qe (pe_callTy call_tuple_of rfl T.tuple bt_tuple (pa_cons (pv 1) pa_nil))))))), ?_⟩
  refine ⟨fun σ' H' => ∃ (l : Addr) (js : List Int) (i1 : Int), σ' = [some (.ref p), some (.ref l), none] ∧ Pen p c ns i i1 H H' ∧ i1 ≤ i + 7 ∧ H l = none ∧ l ≠ p ∧ H' l = some (.lst (js.map V.int)) ∧ 0 < js.length ∧ js.length ≤ 6, ?_, ?_⟩
  · refine ⟨_, rfl, p, c, ns, i, j, 6, rfl, hp, by omega, by decide, by decide, fun r1 i1 j1 a1 a2 a3 a4 => ?_⟩
    have P1 := (Pen.refl hp).step (j2 := j1) a3 (by omega) a4
    refine ⟨1, r1, rfl, rfl, 1 + r1, rfl, by omega, by omega, fun D hD => ?_⟩
    have Dp : D ≠ p := fun z => by have h := hD.1; rw [z, upd_same] at h; cases h
    have HD : H D = none := by have h := hD.1; rw [upd_ne Dp] at h; exact h
    refine lc_range (lo := 0) (n := (1 + r1).toNat) (fun k H' => ∃ (i2 : Int) (js : List Int), Pen p c ns i i2 H H' ∧ i2 ≤ i + 1 + (k : Int) ∧ H' D = some (.lst (js.map V.int)) ∧ js.length = k) ⟨i1, [], P1.put hp HD _, by omega, upd_same, rfl⟩ (fun k H' hk hq => ?_) (fun H' hq => ?_)
    · obtain ⟨i2, js, P2, u2, eD, hl⟩ := hq
      obtain ⟨j2, hp2⟩ := P2.pen
      refine ⟨rfl, yes_then ?_⟩
      refine ⟨_, rfl, p, c, ns, i2, j2, 2001, rfl, hp2, by omega, by decide, by decide, fun r i3 j3 b1 b2 b3 b4 => ⟨r, 1000, rfl, rfl, js.map V.int, (upd_ne Dp).trans eD, ?_, i3, js ++ [r - 1000], (P2.step b3 (by omega) b4).put hp HD _, by omega, ?_, ?_⟩⟩
      · rw [List.length_map, hl]; omega
      · rw [List.map_append]; exact upd_same
      · rw [List.length_append, hl]; rfl
    · obtain ⟨i2, js, P2, u2, eD, hl⟩ := hq
      exact ⟨D, js, i2, rfl, P2, by omega, HD, Dp, eD, by omega, by omega⟩
  rintro σ1 H1 ⟨l, js, i1, e1, P1, u1, hl0, lp, el, n0, n6⟩
  rw [e1]
  obtain ⟨j1, hp1⟩ := P1.pen
  refine ⟨fun σ' H' => ∃ (i2 : Int) (vs : List V) (dw : List PyData), σ' = [some (.ref p), some (.ref l), none] ∧ Pen p c ns i i2 H H' ∧ i2 ≤ i + 9 ∧ H' l = some (.lst vs) ∧ DqAll K H' vs dw ∧ vs.length ≤ 10000 ∧ weightsD (.tuple dw) 25 1000 = false, ?_, ?_⟩
  rotate_left
  · rintro σ2 H2 ⟨i2, vs, dw, e2, P2, u2, el2, dq, hlen, bad⟩
    rw [e2]
    refine ⟨_, rfl, l, vs, rfl, .inl ⟨SqL.of el2, fun a ha => ?_⟩⟩
    have s2 := same_new ha (.tup vs)
    exact q a _ i2 _ (P2.same s2) (by omega) (.tup (SqT.of upd_same) hlen (DqAll.same s2 dq)) bad
  refine ⟨1001, rfl, Nat.le_of_ble_eq_true rfl, fun t ht => ?_⟩
  have st := same_new ht (.tup [.int 1])
  refine ⟨by show 6 ≤ sizeLine; decide, fun l0 hl0' => ?_⟩
  have s0 := same_new hl0' (.lst [.int 1001, .int (-1001), .bl true, .non, .str "1", .ref t])
  have P2 := (P1.same st).same s0
  obtain ⟨j2, hp2⟩ := P2.pen
  have lp0 : l0 ≠ p := fun z => by rw [z, st _ _ hp1.at_] at hl0'; cases hl0'
  refine ⟨_, rfl, p, c, ns, i1, j2, 6, rfl, hp2, by omega, by decide, by decide, fun r i2 j3 a1 a2 a3 a4 => ?_⟩
  have P3 := P2.step (j2 := j3) a3 (by omega) a4
  obtain ⟨v, vm, va⟩ := at_mem2 (vs := [.int 1001, .int (-1001), .bl true, .non, .str "1", .ref t]) a1 a2
  obtain ⟨j4, hp4⟩ := P3.pen
  have tp : t ≠ p := fun z => by rw [z, hp1.at_] at ht; cases ht
  have ln : ∀ {a : Addr}, H1 a = none → a ≠ l := fun {a} h z => by rw [z, el] at h; cases h
  have et3 : ∀ {x y : HO}, (upd (upd (upd (upd H1 t (.tup [.int 1])) l0 (.lst [.int 1001, .int (-1001), .bl true, .non, .str "1", .ref t])) p x) p y) t = some (.tup [.int 1]) := fun {x y} => by
    rw [upd_ne tp, upd_ne tp]; exact s0 _ _ upd_same
  have el3 : (upd (upd (upd H1 t (.tup [.int 1])) l0 (.lst [.int 1001, .int (-1001), .bl true, .non, .str "1", .ref t])) p (.lst [.ref c, .int i2, .int j3])) l = some (.lst (js.map V.int)) := (upd_ne lp).trans (s0 _ _ (st _ _ el))
  refine ⟨l0, _, r, v, rfl, rfl, SqL.of ((upd_ne lp0).trans upd_same), va, _, rfl, _, rfl, _, rfl, l, _, rfl, .inl (SqL.of el3), p, c, ns, i2, j4, _, rfl, hp4, by omega, by rw [List.length_map]; omega, by rw [List.length_map]; omega, fun r2 i3 j5 b1 b2 b3 b4 => ?_⟩
  rw [List.length_map] at b2
  have P4 := P3.step (j2 := j5) b3 (by omega) b4
  have cl := ne_of_none hp.cells hl0
  have eql := (upd_ne (H := upd (upd (upd H1 t (.tup [.int 1])) l0 (.lst [.int 1001, .int (-1001), .bl true, .non, .str "1", .ref t])) p (.lst [.ref c, .int i2, .int j3])) (o := .lst [.ref c, .int i3, .int j5]) lp).trans el3
  refine ⟨l, _, r2, r2.toNat, rfl, rfl, eql, by rw [List.length_map]; exact ixN_in b1 b2, i3, _, (js.map PyData.int).set r2.toNat (badD v), rfl, P4.put hp hl0 _, by omega, upd_same, ?_, ?_, ?_⟩
  · refine DqAll.set ?_ _ (dqAll_ints js)
    simp only [List.mem_cons, List.not_mem_nil, or_false] at vm
    rcases vm with rfl | rfl | rfl | rfl | rfl | rfl
    · exact .int _
    · exact .int _
    · exact .bl _
    · exact .non
    · exact .str _
    · refine .tup (SqT.of ?_) (by show 1 ≤ 10000; decide) (.cons (.int 1) .nil)
      rw [upd_ne (ln ht)]; exact et3
  · rw [List.length_set, List.length_map]; omega
  · have bad : ∀ {d : PyData}, inD d (-1000) 1000 = false → weightsD (.tuple ((js.map PyData.int).set r2.toNat d)) 25 1000 = false := fun {d} hd => by
      unfold weightsD
      rw [Bool.and_eq_false_iff]
      refine .inr ?_
      rw [Bool.eq_false_iff]
      intro h
      have z := List.all_eq_true.mp h d (List.mem_set (by rw [List.length_map]; omega) d)
      rw [show inD d (-1000) 1000 = true from z] at hd
      cases hd
    simp only [List.mem_cons, List.not_mem_nil, or_false] at vm
    rcases vm with rfl | rfl | rfl | rfl | rfl | rfl <;> exact bad rfl
end
end Mk
namespace Mk
open PySem L2 PyProof.Rows
abbrev sLRr : Stmt := top 48
inductive FlatAll : List V → List PyData → Prop
  | nil : FlatAll [] []
  | int (i : Int) {xs : List V} {ds : List PyData} : FlatAll xs ds → FlatAll (.int i :: xs) (.int i :: ds)
  | bl (b : Bool) {xs : List V} {ds : List PyData} : FlatAll xs ds → FlatAll (.bl b :: xs) (.bool b :: ds)
  | str (z : Str) {xs : List V} {ds : List PyData} : FlatAll xs ds → FlatAll (.str z :: xs) (.str z :: ds)
theorem FlatAll.dq {K : PySem.W.Frag} {H : Hp} : ∀ {xs : List V} {ds : List PyData}, FlatAll xs ds → DqAll K H xs ds
  | _, _, .nil => .nil
  | _, _, .int i h => .cons (.int i) h.dq
  | _, _, .bl b h => .cons (.bl b) h.dq
  | _, _, .str z h => .cons (.str z) h.dq
theorem FlatAll.ints : ∀ ns : List Int, FlatAll (ns.map V.int) (ns.map PyData.int)
  | [] => .nil
  | n :: ns => .int n (FlatAll.ints ns)
/-- a written thing: flat, a tuple of flat ones, or the list [1, 2] -/
inductive Th (H : Hp) : V → PyData → Prop
  | non : Th H .non .none
  | bl (b : Bool) : Th H (.bl b) (.bool b)
  | int (i : Int) : Th H (.int i) (.int i)
  | str (z : Str) : Th H (.str z) (.str z)
  | tup {t : Addr} {xs : List V} {ds : List PyData} : H t = some (.tup xs) → FlatAll xs ds → xs.length ≤ 10000 → Th H (.ref t) (.tuple ds)
  | lst {t : Addr} : H t = some (.lst [.int 1, .int 2]) → t ≠ sysModules → Th H (.ref t) (.list [.int 1, .int 2])
theorem Th.dq {K : PySem.W.Frag} {H : Hp} {v : V} {d : PyData} (h : Th H v d) : Dq K H v d := by
  cases h with
  | non => exact .non
  | bl b => exact .bl b
  | int i => exact .int i
  | str z => exact .str z
  | tup e f n => exact .tup (SqT.of e) n f.dq
  | lst e n => exact .lst (SqL.of e) ⟨n, by show 2 ≤ 10000; decide⟩ (.cons (.int 1) (.cons (.int 2) .nil))
/-- tuples and the list [1, 2] stay -/
structure Kp (H H' : Hp) : Prop where
  tup : ∀ t xs, H t = some (.tup xs) → H' t = some (.tup xs)
  lst : ∀ t, H t = some (.lst [.int 1, .int 2]) → H' t = some (.lst [.int 1, .int 2])
theorem Kp.trans {H H1 H2 : Hp} (a : Kp H H1) (b : Kp H1 H2) : Kp H H2 := ⟨fun t xs e => b.tup t xs (a.tup t xs e), fun t e => b.lst t (a.lst t e)⟩
theorem Kp.same {H H' : Hp} (s : Same H H') : Kp H H' := ⟨fun t xs e => s _ _ e, fun t e => s _ _ e⟩
theorem Th.kp {H H' : Hp} {v : V} {d : PyData} (k : Kp H H') (h : Th H v d) : Th H' v d := by
  cases h with
  | non => exact .non
  | bl b => exact .bl b
  | int i => exact .int i
  | str z => exact .str z
  | tup e f n => exact .tup (k.tup _ _ e) f n
  | lst e n => exact .lst (k.lst _ e) n
theorem Kp.one {H H' : Hp} {v : V} {Pr : PyData → Prop} (k : Kp H H') (h : ∃ d, Th H v d ∧ Pr d) : ∃ d, Th H' v d ∧ Pr d := let ⟨d, t, q⟩ := h; ⟨d, t.kp k, q⟩
/-- the pen and the table of worst's code -/
structure Bo (Pt p c : Addr) (ns : List Int) (i : Int) (H : Hp) : Prop where
  pen : ∃ j, PenAt H p c ns i j
  tab : TabO H Pt lamPos lamQual
section
variable {Pt p c : Addr} {ns : List Int} {i i' : Int} {H H' : Hp}
theorem Bo.tbl (b : Bo Pt p c ns i H) : ∃ ps, H Pt = some (.tbl ps) := by
  rcases b.tab with z | ⟨c', z, _⟩
  · exact ⟨_, z⟩
  · exact ⟨_, z⟩
theorem Bo.same (b : Bo Pt p c ns i H) (s : Same H H') : Bo Pt p c ns i H' := by
  obtain ⟨j, h⟩ := b.pen
  exact ⟨⟨j, s _ _ h.at_, s _ _ h.cells, h.low, h.high⟩, tabO_same s b.tab⟩
theorem Bo.draw (b : Bo Pt p c ns i H) (s : Pen p c ns i i' H H') : Bo Pt p c ns i' H' := by
  obtain ⟨j, h⟩ := b.pen
  refine ⟨s.pen, ?_⟩
  rcases b.tab with z | ⟨c', z, z2⟩
  · exact .inl (s.old _ _ z (fun e => by rw [e, h.at_] at z; cases z))
  · exact .inr ⟨c', s.old _ _ z (fun e => by rw [e, h.at_] at z; cases z), s.old _ _ z2 (fun e => by rw [e, h.at_] at z2; cases z2)⟩
theorem Bo.ref (b : Bo Pt p c ns i H) (s : SameP Pt H H') (t : TabO H' Pt lamPos lamQual) : Bo Pt p c ns i H' := by
  obtain ⟨j, h⟩ := b.pen
  obtain ⟨ps, z⟩ := b.tbl
  exact ⟨⟨j, s _ _ h.at_ (fun e => by have a := h.at_; rw [e, z] at a; cases a), s _ _ h.cells (fun e => by have a := h.cells; rw [e, z] at a; cases a), h.low, h.high⟩, t⟩
theorem Kp.draw (b : Bo Pt p c ns i H) (s : Pen p c ns i i' H H') : Kp H H' := by
  obtain ⟨j, h⟩ := b.pen
  exact ⟨fun t xs e => s.old _ _ e (fun z => by rw [z, h.at_] at e; cases e), fun t e => s.old _ _ e (fun z => by rw [z, h.at_] at e; cases e)⟩
theorem Kp.ref (b : Bo Pt p c ns i H) (s : SameP Pt H H') : Kp H H' := by
  obtain ⟨ps, h⟩ := b.tbl
  exact ⟨fun t xs e => s _ _ e (fun z => by rw [z, h] at e; cases e), fun t e => s _ _ e (fun z => by rw [z, h] at e; cases e)⟩
/-- a thing out of a written list -/
theorem Bo.pick (b : Bo Pt p c ns i H) {l : Addr} {vs : List V} (hl : H l = none) {r i1 j1 : Int} (a1 : 0 ≤ r) (a2 : r < (vs.length : Int)) (a3 : i ≤ i1) (a4 : i1 ≤ i + 1) (a5 : i < 999999) : ∃ v ∈ vs, atI vs r = some v ∧ (upd (upd H l (.lst vs)) p (.lst [.ref c, .int i1, .int j1])) l = some (.lst vs) ∧ Bo Pt p c ns i1 (upd (upd H l (.lst vs)) p (.lst [.ref c, .int i1, .int j1])) ∧ Kp H (upd (upd H l (.lst vs)) p (.lst [.ref c, .int i1, .int j1])) := by
  obtain ⟨v, vm, va⟩ := at_mem2 (vs := vs) a1 a2
  have s := same_new hl (.lst vs)
  have b2 := b.same s
  obtain ⟨j, h⟩ := b2.pen
  have lp : l ≠ p := fun z => by obtain ⟨j', h'⟩ := b.pen; rw [z, h'.at_] at hl; cases hl
  have P := (Pen.refl h).step (j2 := j1) a3 (by omega) a4
  exact ⟨v, vm, va, (upd_ne lp).trans upd_same, b2.draw P, (Kp.same s).trans (Kp.draw b2 P)⟩
end
section
variable {P : Program} {w : World} {K : PySem.W.Frag} {mg : Str → Option Value} {base : Heap}
abbrev nLRr : List Str := ["_law_pen_here", "_law_no_weights", "_law_no_depth", "_law_odd_by", "_law_odd_plus"]
theorem scLRr : FnScope nLRr ["_law_pen_here"] (defScope sLRr) := ⟨rfl, rfl, rfl, by decide +kernel, rfl, by decide +kernel, by decide +kernel⟩
def spLRr (K : PySem.W.Frag) (Pt : Addr) : Sp := fun vs H Q _ => ∃ (p c : Addr) (ns : List Int) (i : Int), vs = [.ref p] ∧ Bo Pt p c ns i H ∧ i < 900000 ∧ ∀ H', Q (.bl true) H'
theorem fine_last : Fine [1, -1, 998] 3 := ⟨by decide, by decide +kernel, by decide, fun w hw => by simp at hw; omega⟩
set_option maxHeartbeats 4000000 in
theorem ok_lrr {f gD gB gR Pt : Addr} {fd dD dB dR : FuncData} (F : Fun K "_law_refused_right" "_law_refused_right" sLRr f fd) (G : FnOk P w K mg base CX0 1 gD dD ["_law_pen_here", "_law_many"] (spDraw 1000000)) (bG : Binds K dD ["_law_pen_here", "_law_many"] []) (kG : PySem.W.keepIn K (.ref gD) = true) (mG : mg "_law_draw" = some (.ref gD))
    (GB : FnOk P w K mg base CX0 2 gB dB ["_law_pen_here"] (spLBw K)) (bB : Binds K dB ["_law_pen_here"] []) (kB : PySem.W.keepIn K (.ref gB) = true) (mB : mg "_law_bad_weights" = some (.ref gB))
    (GR : FnOk P w K mg base CX0 7 gR dR ["_law_weights", "_law_under", "_law_extra", "_law_deep"] (spLRf K Pt)) (bR : Binds K dR ["_law_weights", "_law_under", "_law_extra", "_law_deep"] []) (kR : PySem.W.keepIn K (.ref gR) = true) (mR : mg "_law_refusal" = some (.ref gR)) :
    FnOk P w K mg base CX0 8 f fd ["_law_pen_here"] (spLRr K Pt) := by
  refine F.okQ scLRr (fun vs H Q E h => ?_) (fun cdv A outer s H vs Q E hr h => ?_)
  · obtain ⟨p, c, ns, i, rfl, _⟩ := h
    rfl
  obtain ⟨p, c, ns, i, rfl, bo, hi, q⟩ := h
  have hr1 : Room 1 _ := hr.mono (by decide)
  have hr2 : Room 2 _ := hr.mono (by decide)
  have le : ∀ {n : Nat}, n.ble 1000 = true → n ≤ sizeLine := fun h => Nat.le_trans (Nat.le_of_ble_eq_true h) (by decide)
  refine ⟨_, (qss_cut (ps_setQ (i := 1) scLRr.nd rfl (Or.inl rfl) (q_ix ix_list (q_lst (qc (q_tup qa_nil) (qc q_non (qc (q_lstX (qc q_int (qc q_int qa_nil))) (qc (q_op op_repT (q_tup (qc q_int qa_nil)) q_int) (qc (q_tup (qc q_int qa_nil)) (qc (q_tup (qc (q_un un_neg q_int) (qc q_int qa_nil))) (qc (q_tup (qc q_bl qa_nil)) (qc (q_tup (qc q_str qa_nil)) (qc q_int qa_nil)))))))))) (q_call G hr1 rfl mG kG bG .nil pass0 (qc (qv 0) (qc q_int qa_nil))) (fun _ _ => rfl)) (by rfl))
    (qss_cut (ps_setQ (i := 2) scLRr.nd rfl (Or.inl rfl) (q_ix ix_list (q_lst (qc q_int (qc q_int (qc q_bl (qc q_non (qc q_str (qc (q_un un_neg q_int) (qc (q_tup (qc q_int qa_nil)) qa_nil)))))))) (q_call G hr1 rfl mG kG bG .nil pass0 (qc (qv 0) (qc q_int qa_nil))) (fun _ _ => rfl)) (by rfl))
    (qss_cut (ps_setQ (i := 3) scLRr.nd rfl (Or.inl rfl) (q_ix ix_list (q_lst (qc (q_un un_neg q_int) (qc q_int (qc q_non (qc q_bl (qc q_str qa_nil)))))) (q_call G hr1 rfl mG kG bG .nil pass0 (qc (qv 0) (qc q_int qa_nil))) (fun _ _ => rfl)) (by rfl))
    (qss_cut (ps_setQ (i := 4) scLRr.nd rfl (Or.inl rfl) (q_ix ix_list (q_lst (qc q_int (qc (q_un un_neg q_int) (qc q_non (qc q_bl (qc (q_tup (qc q_int qa_nil)) qa_nil)))))) (q_call G hr1 rfl mG kG bG .nil pass0 (qc (qv 0) (qc q_int qa_nil))) (fun _ _ => rfl)) (by rfl))
    (qss_cut (qs_if (qt (PW.pt (pw_or (pt_cmpR op_ne (qr (q_call GR hr rfl mR kR bR .nil pass0 (qc (qv 1) (qc q_int (qc q_int (qc (qv 2) qa_nil)))))) pe_str (nomark _)) (pw_or1 (pt_cmpR op_ne (qr (q_call GR hr rfl mR kR bR .nil pass0 (qc (q_tup (qc q_int qa_nil)) (qc (qv 3) (qc q_int (qc (qv 2) qa_nil)))))) pe_str (nomark _)))))) (qss1 (qs_ret q_bl)) qss_nil)
    (qss_cut (qs_if (qt (pt_cmpR op_ne (qr (q_call GR hr rfl mR kR bR .nil pass0 (qc (q_call GB hr2 rfl mB kB bB .nil pass0 (qc (qv 0) qa_nil)) (qc q_int (qc q_int (qc q_int qa_nil)))))) pe_str (nomark _))) (qss1 (qs_ret q_bl)) qss_nil)
    (qss_cut (qs_if (qt (PW.pt (pw_or (pt_cmpR op_ne (qr (q_call GR hr rfl mR kR bR .nil pass0 (qc (q_tup (qc q_int qa_nil)) (qc q_int (qc (qv 4) (qc (qv 2) qa_nil)))))) pe_str (nomark _)) (pw_or1 (pt_cmpR op_ne (qr (q_call GR hr rfl mR kR bR .nil pass0 (qc (q_tup (qc q_int qa_nil)) (qc q_int (qc q_int (qc (qv 2) qa_nil)))))) pe_str (nomark _)))))) (qss1 (qs_ret q_bl)) qss_nil)
    (qss_cut (qs_if (qt (PW.pt (pw_or (pt_cmpR op_ne (qr (q_call GR hr rfl mR kR bR .nil pass0 (qc (q_op op_repT (q_tup (qc q_int qa_nil)) q_int) (qc q_int (qc q_int (qc (qv 2) qa_nil)))))) pe_str (nomark _)) (pw_or1 (pt_cmpR op_ne (qr (q_call GR hr rfl mR kR bR .nil pass0 (qc (q_tup (qc q_int (qc (q_un un_neg q_int) (qc q_int qa_nil)))) (qc q_int (qc q_int (qc q_int qa_nil)))))) pe_str (nomark _)))))) (qss1 (qs_ret q_bl)) qss_nil)
    (qss1 (qs_ret (qe (pe_cmpR op_eq (qr (q_call GR hr rfl mR kR bR .nil pass0 (qc (q_tup (qc q_int (qc (q_un un_neg q_int) (qc q_int qa_nil)))) (qc q_int (qc q_int (qc q_int qa_nil)))))) pe_str (nomark _))))))))))))), ?_⟩
  -- the weights
  refine ⟨fun σ' H' => ∃ (v : V) (d : PyData) (i1 : Int), σ' = [some (.ref p), some v, none, none, none] ∧ Bo Pt p c ns i1 H' ∧ i1 ≤ i + 1 ∧ Th H' v d ∧ weightsD d 25 1000 = false, ?_, ?_⟩
  · refine ⟨le rfl, fun t1 h1 => ⟨le rfl, fun t2 h2 => ⟨le rfl, fun t3 h3 => ⟨t3, 26, [.int 1], rfl, rfl, SqT.of upd_same, List.cons_ne_nil _ _, by decide, le rfl, fun z => absurd z (by decide), fun _ t4 h4 => ⟨le rfl, fun t5 h5 => ⟨1001, rfl, le rfl, fun t6 h6 => ⟨le rfl, fun t7 h7 => ⟨le rfl, fun t8 h8 => ⟨le rfl, fun l hl => ?_⟩⟩⟩⟩⟩⟩⟩⟩⟩
    have s1 := same_new h1 (.tup [])
    have s2 := same_new h2.1 (.lst [.int 1, .int 2])
    have s3 := same_new h3 (.tup [.int 1])
    have s4 := same_new h4 (.tup (List.replicate (26 : Int).toNat [V.int 1]).flatten)
    have s5 := same_new h5 (.tup [.int 1001])
    have s6 := same_new h6 (.tup [.int (-1001), .int 0])
    have s7 := same_new h7 (.tup [.bl true])
    have s8 := same_new h8 (.tup [.str "1"])
    have u7 := s8
    have u6 := s7.trans u7
    have u5 := s6.trans u6
    have u4 := s5.trans u5
    have u3 := s4.trans u4
    have u2 := s3.trans u3
    have u1 := s2.trans u2
    have u0 := s1.trans u1
    have b8 := bo.same u0
    obtain ⟨j9, p9⟩ := (b8.same (same_new hl (.lst [.ref t1, .non, .ref t2, .ref t4, .ref t5, .ref t6, .ref t7, .ref t8, .int 3]))).pen
    refine ⟨_, rfl, p, c, ns, i, j9, 9, rfl, p9, by omega, by decide, by decide, fun r i1 j1 a1 a2 a3 a4 => ?_⟩
    obtain ⟨v, vm, va, el, b10, kp⟩ := b8.pick (vs := [.ref t1, .non, .ref t2, .ref t4, .ref t5, .ref t6, .ref t7, .ref t8, .int 3]) (j1 := j1) hl a1 a2 a3 a4 (by omega)
    refine ⟨l, _, r, v, rfl, rfl, SqL.of el, va, v, ?_⟩
    have th := Kp.one (v := v) (Pr := fun d => weightsD d 25 1000 = false) kp (by
      simp only [List.mem_cons, List.not_mem_nil, or_false] at vm
      rcases vm with rfl | rfl | rfl | rfl | rfl | rfl | rfl | rfl | rfl
      · exact ⟨_, .tup (u1 _ _ upd_same) .nil (by decide), by decide +kernel⟩
      · exact ⟨_, .non, by decide +kernel⟩
      · exact ⟨_, .lst (u2 _ _ upd_same) h2.2, by decide +kernel⟩
      · exact ⟨_, .tup (u4 _ _ upd_same) (FlatAll.ints (List.replicate 26 1)) (by decide), by decide +kernel⟩
      · exact ⟨_, .tup (u5 _ _ upd_same) (.int _ .nil) (by decide), by decide +kernel⟩
      · exact ⟨_, .tup (u6 _ _ upd_same) (.int _ (.int _ .nil)) (by decide), by decide +kernel⟩
      · exact ⟨_, .tup (u7 _ _ upd_same) (.bl _ .nil) (by decide), by decide +kernel⟩
      · exact ⟨_, .tup upd_same (.str _ .nil) (by decide), by decide +kernel⟩
      · exact ⟨_, .int _, by decide +kernel⟩)
    obtain ⟨d, t, bad⟩ := th
    exact ⟨d, i1, rfl, b10, a4, t, bad⟩
  rintro σ1 H1 ⟨vw, dw, i1, e1, b1, u1, tw, badW⟩
  rw [e1]
  -- the depth
  refine ⟨fun σ' H' => ∃ (v : V) (d : PyData) (i2 : Int), σ' = [some (.ref p), some vw, some v, none, none] ∧ Bo Pt p c ns i2 H' ∧ i2 ≤ i + 2 ∧ Th H' vw dw ∧ Th H' v d ∧ inD d 1 65535 = false, ?_, ?_⟩
  · refine ⟨1, rfl, le rfl, fun t1 h1 => ⟨le rfl, fun l hl => ?_⟩⟩
    have s1 := same_new h1 (.tup [.int 1])
    have b8 := b1.same s1
    obtain ⟨j9, p9⟩ := (b8.same (same_new hl (.lst [.int 0, .int 65536, .bl true, .non, .str "3", .int (-1), .ref t1]))).pen
    refine ⟨_, rfl, p, c, ns, i1, j9, 7, rfl, p9, by omega, by decide, by decide, fun r i2 j1 a1 a2 a3 a4 => ?_⟩
    obtain ⟨v, vm, va, el, b10, kp⟩ := b8.pick (vs := [.int 0, .int 65536, .bl true, .non, .str "3", .int (-1), .ref t1]) (j1 := j1) hl a1 a2 a3 a4 (by omega)
    refine ⟨l, _, r, v, rfl, rfl, SqL.of el, va, v, ?_⟩
    have th := Kp.one (v := v) (Pr := fun d => inD d 1 65535 = false) kp (by
      simp only [List.mem_cons, List.not_mem_nil, or_false] at vm
      rcases vm with rfl | rfl | rfl | rfl | rfl | rfl | rfl
      · exact ⟨_, .int _, by decide +kernel⟩
      · exact ⟨_, .int _, by decide +kernel⟩
      · exact ⟨_, .bl _, by decide +kernel⟩
      · exact ⟨_, .non, by decide +kernel⟩
      · exact ⟨_, .str _, by decide +kernel⟩
      · exact ⟨_, .int _, by decide +kernel⟩
      · exact ⟨_, .tup upd_same (.int _ .nil) (by decide), by decide +kernel⟩)
    obtain ⟨d, t, bad⟩ := th
    exact ⟨d, i2, rfl, b10, by omega, tw.kp ((Kp.same s1).trans kp), t, bad⟩
  rintro σ2 H2 ⟨vd, dd, i2, e2, b2, u2, tw2, td2, badD'⟩
  rw [e2]
  -- by
  refine ⟨fun σ' H' => ∃ (v : V) (d : PyData) (i3 : Int), σ' = [some (.ref p), some vw, some vd, some v, none] ∧ Bo Pt p c ns i3 H' ∧ i3 ≤ i + 3 ∧ Th H' vw dw ∧ Th H' vd dd ∧ Th H' v d ∧ inD d 0 100000 = false, ?_, ?_⟩
  · refine ⟨1, rfl, le rfl, fun l hl => ?_⟩
    obtain ⟨j9, p9⟩ := (b2.same (same_new hl (.lst [.int (-1), .int 100001, .non, .bl true, .str "1"]))).pen
    refine ⟨_, rfl, p, c, ns, i2, j9, 5, rfl, p9, by omega, by decide, by decide, fun r i3 j1 a1 a2 a3 a4 => ?_⟩
    obtain ⟨v, vm, va, el, b10, kp⟩ := b2.pick (vs := [.int (-1), .int 100001, .non, .bl true, .str "1"]) (j1 := j1) hl a1 a2 a3 a4 (by omega)
    refine ⟨l, _, r, v, rfl, rfl, SqL.of el, va, v, ?_⟩
    have th := Kp.one (v := v) (Pr := fun d => inD d 0 100000 = false) kp (by
      simp only [List.mem_cons, List.not_mem_nil, or_false] at vm
      rcases vm with rfl | rfl | rfl | rfl | rfl
      · exact ⟨_, .int _, by decide +kernel⟩
      · exact ⟨_, .int _, by decide +kernel⟩
      · exact ⟨_, .non, by decide +kernel⟩
      · exact ⟨_, .bl _, by decide +kernel⟩
      · exact ⟨_, .str _, by decide +kernel⟩)
    obtain ⟨d, t, bad⟩ := th
    exact ⟨d, i3, rfl, b10, by omega, tw2.kp kp, td2.kp kp, t, bad⟩
  rintro σ3 H3 ⟨vb, db, i3, e3, b3, u3, tw3, td3, tb3, badB⟩
  rw [e3]
  -- plus
  refine ⟨fun σ' H' => ∃ (v : V) (d : PyData) (i4 : Int), σ' = [some (.ref p), some vw, some vd, some vb, some v] ∧ Bo Pt p c ns i4 H' ∧ i4 ≤ i + 4 ∧ Th H' vw dw ∧ Th H' vd dd ∧ Th H' vb db ∧ Th H' v d ∧ inD d (-65535) 65535 = false, ?_, ?_⟩
  · refine ⟨65536, rfl, le rfl, fun t1 h1 => ⟨le rfl, fun l hl => ?_⟩⟩
    have s1 := same_new h1 (.tup [.int 0])
    have b8 := b3.same s1
    obtain ⟨j9, p9⟩ := (b8.same (same_new hl (.lst [.int 65536, .int (-65536), .non, .bl true, .ref t1]))).pen
    refine ⟨_, rfl, p, c, ns, i3, j9, 5, rfl, p9, by omega, by decide, by decide, fun r i4 j1 a1 a2 a3 a4 => ?_⟩
    obtain ⟨v, vm, va, el, b10, kp⟩ := b8.pick (vs := [.int 65536, .int (-65536), .non, .bl true, .ref t1]) (j1 := j1) hl a1 a2 a3 a4 (by omega)
    refine ⟨l, _, r, v, rfl, rfl, SqL.of el, va, v, ?_⟩
    have th := Kp.one (v := v) (Pr := fun d => inD d (-65535) 65535 = false) kp (by
      simp only [List.mem_cons, List.not_mem_nil, or_false] at vm
      rcases vm with rfl | rfl | rfl | rfl | rfl
      · exact ⟨_, .int _, by decide +kernel⟩
      · exact ⟨_, .int _, by decide +kernel⟩
      · exact ⟨_, .non, by decide +kernel⟩
      · exact ⟨_, .bl _, by decide +kernel⟩
      · exact ⟨_, .tup upd_same (.int _ .nil) (by decide), by decide +kernel⟩)
    obtain ⟨d, t, bad⟩ := th
    have k := (Kp.same s1).trans kp
    exact ⟨d, i4, rfl, b10, by omega, tw3.kp k, td3.kp k, tb3.kp k, t, bad⟩
  rintro σ4 H4 ⟨vp, dp, i4, e4, b4, u4, tw4, td4, tb4, tp4, badP⟩
  rw [e4]
  let S : L2.St := [some (.ref p), some vw, some vd, some vb, some vp]
  have no : ∀ {z : Str}, (!decide (V.str z = V.str z)) = false := fun {z} => by simp
  have okOne : ∀ {db dp : PyData}, weighOk (.tuple [.int 1]) db dp = (inD db 0 100000 && inD dp (-65535) 65535) := fun {db dp} => rfl
  -- the first two
  refine ⟨fun σ' H' => ∃ i5, σ' = S ∧ Bo Pt p c ns i5 H' ∧ i5 ≤ i + 4 ∧ Th H' vd dd ∧ Th H' vp dp, ?_, ?_⟩
  · refine ⟨_, rfl, _, rfl, vw, .int 0, .int 0, vd, _, rfl, b4.tab, .S tw4.dq (.int 0) (.int 0) td4.dq (by unfold weighOk; rw [badW]; rfl), fun H5 s5 t5 => ⟨rfl, _, rfl, iteC no ?_⟩⟩
    have b5 := b4.ref s5 t5
    have k5 := Kp.ref b4 s5
    refine ⟨le rfl, fun t ht => ?_⟩
    have s6 := same_new ht (.tup [.int 1])
    have b6 := b5.same s6
    have k6 := k5.trans (Kp.same s6)
    refine ⟨_, rfl, _, rfl, .ref t, vb, .int 0, vd, _, rfl, b6.tab, .S (Th.dq (.tup upd_same (.int 1 .nil) (by decide))) (tb4.kp k6).dq (.int 0) (td4.kp k6).dq (by rw [okOne, badB]; rfl), fun H7 s7 t7 => ⟨rfl, _, rfl, iteC no ?_⟩⟩
    have k7 := k6.trans (Kp.ref b6 s7)
    exact ⟨i4, rfl, b6.ref s7 t7, u4, td4.kp k7, tp4.kp k7⟩
  rintro σ5 H5 ⟨i5, e5, b5, u5, td5, tp5⟩
  rw [e5]
  -- weights of which one is none
  refine ⟨fun σ' H' => ∃ i6, σ' = S ∧ Bo Pt p c ns i6 H' ∧ Th H' vd dd ∧ Th H' vp dp, ?_, ?_⟩
  · obtain ⟨j5, p5⟩ := b5.pen
    refine ⟨_, rfl, p, c, ns, i5, j5, rfl, p5, by omega, fun t dw' i6 H6 P6 u6 dq bad => ?_⟩
    have b6 := b5.draw P6
    have k6 := Kp.draw b5 P6
    refine ⟨.ref t, .int 1, .int 0, .int 3, _, rfl, b6.tab, .S dq (.int 1) (.int 0) (.int 3) (by unfold weighOk; rw [bad]; rfl), fun H7 s7 t7 => ⟨rfl, _, rfl, iteC no ?_⟩⟩
    have k7 := k6.trans (Kp.ref b6 s7)
    exact ⟨i6, rfl, b6.ref s7 t7, td5.kp k7, tp5.kp k7⟩
  rintro σ6 H6 ⟨i6, e6, b6, td6, tp6⟩
  rw [e6]
  -- plus; by 0
  refine ⟨fun σ' H' => σ' = S ∧ Bo Pt p c ns i6 H' ∧ Th H' vd dd, ?_, ?_⟩
  · refine ⟨le rfl, fun t ht => ?_⟩
    have s7 := same_new ht (.tup [.int 1])
    have b7 := b6.same s7
    have k7 := Kp.same s7
    refine ⟨_, rfl, _, rfl, .ref t, .int 0, vp, vd, _, rfl, b7.tab, .S (Th.dq (.tup upd_same (.int 1 .nil) (by decide))) (.int 0) (tp6.kp k7).dq (td6.kp k7).dq (by rw [okOne, badP, Bool.and_false]), fun H8 s8 t8 => ⟨rfl, _, rfl, iteC no ?_⟩⟩
    have b8 := b7.ref s8 t8
    have k8 := k7.trans (Kp.ref b7 s8)
    refine ⟨le rfl, fun t' ht' => ?_⟩
    have s9 := same_new ht' (.tup [.int 1])
    have b9 := b8.same s9
    have k9 := k8.trans (Kp.same s9)
    refine ⟨_, rfl, .ref t', .int 0, .int 0, vd, _, rfl, b9.tab, .D (Th.dq (.tup upd_same (.int 1 .nil) (by decide))) (.int 0) (.int 0) (td6.kp k9).dq rfl rfl, fun H10 s10 t10 => ⟨rfl, _, rfl, iteC no ?_⟩⟩
    exact ⟨rfl, b9.ref s10 t10, td6.kp (k9.trans (Kp.ref b9 s10))⟩
  rintro σ7 H7 ⟨e7, b7, td7⟩
  rw [e7]
  -- a depth that is none; too wide
  refine ⟨fun σ' H' => σ' = S ∧ Bo Pt p c ns i6 H', ?_, ?_⟩
  · refine ⟨le rfl, fun t0 ht0 => ⟨t0, 25, [.int 1000], rfl, rfl, SqT.of upd_same, List.cons_ne_nil _ _, by decide, le rfl, fun z => absurd z (by decide), fun _ t ht => ?_⟩⟩
    have s8 := (same_new ht0 (.tup [.int 1000])).trans (same_new ht (.tup (List.replicate (25 : Int).toNat [V.int 1000]).flatten))
    have b8 := b7.same s8
    refine ⟨_, rfl, .ref t, .int 1, .int 0, vd, _, rfl, b8.tab, .T (Th.dq (.tup upd_same (FlatAll.ints (List.replicate 25 1000)) (by decide))) (.int 1) (.int 0) (td7.kp (Kp.same s8)).dq (by decide +kernel) rfl badD', fun H9 s9 t9 => ⟨rfl, _, rfl, iteC no ?_⟩⟩
    have b9 := b8.ref s9 t9
    refine ⟨1, rfl, le rfl, fun t' ht' => ?_⟩
    have s10 := same_new ht' (.tup [.int 1, .int (-1), .int 999])
    have b10 := b9.same s10
    refine ⟨.ref t', .int 1, .int 0, .int 3, _, rfl, b10.tab, .W (ws := [1, -1, 999]) (Th.dq (.tup upd_same (.int 1 (.int (-1) (.int 999 .nil))) (by decide))) (.int 1) (.int 0) rfl rfl rfl (SqT.of upd_same) (by decide) (by decide) (by decide) (by decide +kernel), fun H11 s11 t11 => ⟨rfl, _, rfl, iteC no ⟨rfl, b10.ref s11 t11⟩⟩⟩
  rintro σ8 H8 ⟨e8, b8⟩
  rw [e8]
  refine ⟨1, rfl, le rfl, fun t ht => ?_⟩
  have s9 := same_new ht (.tup [.int 1, .int (-1), .int 998])
  have b9 := b8.same s9
  refine ⟨.ref t, .int 1, .int 0, .int 3, _, rfl, b9.tab, .N (ws := [1, -1, 998]) (SqT.of upd_same) fine_last (by decide) (by decide) (by decide) (by decide) (by decide) (by decide), fun H10 s10 t10 => ⟨rfl, ?_⟩⟩
  have z := q H10
  exact z
end
end Mk
namespace L2
open PySem PySem.Spec PyProof.Rows
/-- a def that may raise, where it doesn't -/
theorem pass_noE {X : Cx} : Passes (CXE X.prog X.w) X (fun _ _ _ => False) := fun _ _ _ _ _ _ _ h => by
  obtain ⟨_, _, _, _, _, _, F⟩ := h
  exact F.ex.elim
end L2
namespace Mk
open PySem L2 PyProof.Rows
abbrev sLaw : Stmt := top 49
def gB (t0 t1 : Tok) : List Value → List Value → List Value := fun us ws => match ws with | [w0] => us ++ [w0, .int 0 t0, .int 255 t1] | _ => []
def gVB : List V → List V → List V := fun vs zs => match zs with | [z0] => vs ++ [z0, .int 0, .int 255] | _ => []
def gP (t0 t1 : Tok) : List Value → List Value → List Value := fun us ws => match ws with | [w0] => us ++ [.int 1 t0, w0, .int 255 t1] | _ => []
def gVP : List V → List V → List V := fun vs zs => match zs with | [z0] => vs ++ [.int 1, z0, .int 255] | _ => []
/-- what worst told -/
structure Found (H : Hp) (r : Addr) (ws : List Int) (b e d : Int) : Prop where
  ex : ∃ (x y : Addr) (ks : List Int) (er : Int), H r = some (.tup [.ref x, .ref y]) ∧ H x = some (.tup [.int (lowZ er b).1, .int (lowZ er b).2]) ∧ H y = some (.tup (ks.map V.int)) ∧ ks.length = ws.length ∧ (∀ k ∈ ks, 0 ≤ k ∧ k ≤ d) ∧ errZ (dotZ ks ws) b e d = er ∧ ∀ t, (tabP d.toNat ws ws.length t).isSome = true → errZ t b e d ≤ er
section
variable {P : Program} {w : World} {K : PySem.W.Frag} {mg : Str → Option Value} {base : Heap}
theorem wo_use {Pt p c aw CS CD CT CW : Addr} {ns ws : List Int} {i b e d : Int} {H : Hp} {Q : VK} {E : XK} (bo : Bo Pt p c ns i H) (ea : H aw = some (.tup (ws.map V.int))) (fi : Fine ws d) (hl : 0 < ws.length) (b0 : 0 < b) (b1 : b ≤ 100000) (e0 : -65535 ≤ e) (e1 : e ≤ 65535) (d2 : d ≤ 65535)
    (h : ∀ r H', Bo Pt p c ns i H' → H' aw = some (.tup (ws.map V.int)) → Found H' r ws b e d → Q (.ref r) H') : (fun vs H Q E => spWo K Pt vs H Q E ∨ spWoE K CS CD CT CW vs H Q E) [.ref aw, .int b, .int e, .int d] H Q E :=
  .inl ⟨aw, ws, b, e, d, rfl, SqT.of ea, fi, hl, b0, b1, e0, e1, d2, bo.tab, fun r x y ks H' er sP tO hr hx hy hlen hk he hm => h r H' (bo.ref sP tO) ((Kp.ref bo sP).tup _ _ ea) ⟨x, y, ks, er, hr, hx, hy, hlen, hk, he, hm⟩⟩
abbrev nLaw : List Str := ["_law_script", "_law_pen_here", "_law_k", "_law_weights", "_law_under", "_law_extra", "_law_deep", "_law_found"]
theorem scLaw : FnScope nLaw ["_law_script"] (defScope sLaw) := ⟨rfl, rfl, rfl, by decide +kernel, rfl, by decide +kernel, by decide +kernel⟩
def spLaw (K : PySem.W.Frag) (Pt : Addr) : Sp := fun vs H Q _ => ∃ (a : Addr) (ns : List Int), vs = [.ref a] ∧ SqL K H a (ns.map V.int) ∧ ns.length ≤ 63 ∧ H Pt = some (.tbl #[]) ∧ ∀ H', Q (.bl true) H'
set_option maxHeartbeats 4000000 in
theorem ok_law {f gPe gD gWe gW gRi gRr Pt CS CD CT CW : Addr} {fd dPe dD dWe dW dRi dRr : FuncData} {t0 t1 t2 t3 : Tok} (F : Fun K "law" "law" sLaw f fd) (T : Tb mg)
    (GP : FnOk P w K mg base CX0 1 gPe dPe ["_law_script"] (spPen K)) (bP : Binds K dPe ["_law_script"] []) (kP : PySem.W.keepIn K (.ref gPe) = true) (mP : mg "_law_pen" = some (.ref gPe))
    (G : FnOk P w K mg base CX0 1 gD dD ["_law_pen_here", "_law_many"] (spDraw 1000000)) (bG : Binds K dD ["_law_pen_here", "_law_many"] []) (kG : PySem.W.keepIn K (.ref gD) = true) (mG : mg "_law_draw" = some (.ref gD))
    (GWe : FnOk P w K mg base CX0 3 gWe dWe ["_law_pen_here", "_law_limit"] spWei) (bWe : Binds K dWe ["_law_pen_here", "_law_limit"] []) (kWe : PySem.W.keepIn K (.ref gWe) = true) (mWe : mg "_law_weighing" = some (.ref gWe))
    (GW : FnOk P w K mg base (CXE P w) 6 gW dW ["weights", "by", "plus", "depth"] (fun vs H Q E => spWo K Pt vs H Q E ∨ spWoE K CS CD CT CW vs H Q E)) (kbW : KBinds K dW ["weights", "by", "plus", "depth"] ["by", "plus", "depth"] g3 gV3) (kbB : KBinds K dW ["weights", "by", "plus", "depth"] ["by"] (gB t0 t1) gVB) (kbP : KBinds K dW ["weights", "by", "plus", "depth"] ["plus"] (gP t2 t3) gVP)
    (kW : PySem.W.keepIn K (.ref gW) = true) (mW : mg "worst" = some (.ref gW))
    (GRi : FnOk P w K mg base CX0 4 gRi dRi ["_law_weights", "_law_under", "_law_extra", "_law_deep", "_law_found"] (spLRi K)) (bRi : Binds K dRi ["_law_weights", "_law_under", "_law_extra", "_law_deep", "_law_found"] []) (kRi : PySem.W.keepIn K (.ref gRi) = true) (mRi : mg "_law_right" = some (.ref gRi))
    (GRr : FnOk P w K mg base CX0 8 gRr dRr ["_law_pen_here"] (spLRr K Pt)) (bRr : Binds K dRr ["_law_pen_here"] []) (kRr : PySem.W.keepIn K (.ref gRr) = true) (mRr : mg "_law_refused_right" = some (.ref gRr)) :
    FnOk P w K mg base CX0 9 f fd ["_law_script"] (spLaw K Pt) := by
  refine F.okQ scLaw (fun vs H Q E h => ?_) (fun cdv A outer s H vs Q E hr h => ?_)
  · obtain ⟨a, ns, rfl, _⟩ := h
    rfl
  obtain ⟨a, ns, rfl, hs, hl63, hPt, q⟩ := h
  have hr1 : Room 1 _ := hr.mono (by decide)
  have hr3 : Room 3 _ := hr.mono (by decide)
  have hr4 : Room 4 _ := hr.mono (by decide)
  have hr6 : Room 6 _ := hr.mono (by decide)
  refine ⟨_, (qss_cut (ps_setQ (i := 1) scLaw.nd rfl (Or.inl rfl) (q_call GP hr1 rfl mP kP bP .nil pass0 (qc (qv 0) qa_nil)) (by rfl))
    (qss_cut (qs_for PassesOwn.never rfl (pi_range1 rfl T.range (pa_cons (pe_op op_add pe_int (pe_call G hr1 rfl mG kG bG .nil pass0 (pa_cons (pv 1) (pa_cons pe_int pa_nil)))) pa_nil)) (pg_name (i := 2) scLaw.nd rfl (Or.inl rfl))
      (qss_cut (qs (ps_asg (qr (q_call GWe hr3 rfl mWe kWe bWe .nil pass0 (qc (qv 1) (qc (q_ix ix_list (q_lst (qc q_int (qc q_int (qc q_int qa_nil)))) (q_call G hr1 rfl mG kG bG .nil pass0 (qc (qv 1) (qc q_int qa_nil))) (fun _ _ => rfl)) qa_nil))))
          (pg_tup rfl (pgs_cons (pg_name (i := 3) scLaw.nd rfl (Or.inl rfl)) (pgs_cons (pg_name (i := 4) scLaw.nd rfl (Or.inl rfl)) (pgs_cons (pg_name (i := 5) scLaw.nd rfl (Or.inl rfl)) (pgs_cons (pg_name (i := 6) scLaw.nd rfl (Or.inl rfl)) pgs_nil)))))))
      (qss_cut (ps_setQ (i := 7) scLaw.nd rfl (Or.inl rfl) (q_callK GW hr6 rfl mW kW kbW pass_noE (qc (qv 3) qa_nil) (qk (qv 4) (qk (qv 5) (qk (qv 6) qk_nil)))) (by rfl))
      (qss_cut (qs_if (qt (pt_not (pt_val (qr (q_call GRi hr4 rfl mRi kRi bRi .nil pass0 (qc (qv 3) (qc (qv 4) (qc (qv 5) (qc (qv 6) (qc (qv 7) qa_nil)))))))))) (qss1 (qs_ret q_bl)) qss_nil)
      (qss_cut (qs_if (qt (PW.pt (pw_and (pt_cmpR op_eq (pv 6) pe_int (nomark _)) (pw_and1 (pt_not (pt_val (qr (q_call GRi hr4 rfl mRi kRi bRi .nil pass0 (qc (qv 3) (qc (qv 4) (qc q_int (qc (qv 6) (qc (q_callK GW hr6 rfl mW kW kbB pass_noE (qc (qv 3) qa_nil) (qk (qv 4) qk_nil)) qa_nil)))))))))))))
          (qss1 (qs_ret q_bl)) qss_nil)
      (qss1 (qs_if (qt (PW.pt (pw_and (pt_cmpR op_eq (pv 6) pe_int (nomark _)) (pw_and1 (pt_not (pt_val (qr (q_call GRi hr4 rfl mRi kRi bRi .nil pass0 (qc (qv 3) (qc q_int (qc (qv 5) (qc (qv 6) (qc (q_callK GW hr6 rfl mW kW kbP pass_noE (qc (qv 3) qa_nil) (qk (qv 5) qk_nil)) qa_nil)))))))))))))
          (qss1 (qs_ret q_bl)) qss_nil)))))))
    (qss1 (qs_ret (q_call GRr hr rfl mRr kRr bRr .nil pass0 (qc (qv 1) qa_nil)))))), ?_⟩
  refine ⟨fun σ' H' => ∃ (p c : Addr) (ms : List Int), σ' = [some (.ref a), some (.ref p), none, none, none, none, none, none] ∧ Bo Pt p c ms 0 H', ⟨_, rfl, a, ns, rfl, hs, fun p c ms H' s' hp => ⟨p, c, ms, rfl, ⟨0, hp⟩, tabO_same s' (.inl hPt)⟩⟩, ?_⟩
  rintro σ1 H1 ⟨p, c, ms, e1, b1⟩
  rw [e1]
  let Pv : Nat → L2.St → Hp → Prop := fun k σ' H' => ∃ (v2 v3 v4 v5 v6 v7 : Option V) (i : Int), σ' = [some (.ref a), some (.ref p), v2, v3, v4, v5, v6, v7] ∧ Bo Pt p c ms i H' ∧ i ≤ 1 + 61 * (k : Int)
  refine ⟨fun σ' H' => ∃ n : Nat, n ≤ 5 ∧ Pv n σ' H', ?_, ?_⟩
  rotate_left
  · rintro σ2 H2 ⟨n, hn, v2, v3, v4, v5, v6, v7, i, e2, b2, u2⟩
    rw [e2]
    exact ⟨_, rfl, p, c, ms, i, rfl, b2, by omega, fun H' => q H'⟩
  obtain ⟨j1, hp1⟩ := b1.pen
  refine ⟨_, rfl, p, c, ms, 0, j1, 5, rfl, hp1, by omega, by decide, by decide, fun r1 i1 j1' a1 a2 a3 a4 => ?_⟩
  have P1 := (Pen.refl hp1).step (j2 := j1') a3 (by omega) a4
  refine ⟨1, r1, rfl, rfl, 1 + r1, rfl, by omega, by omega, for_range Pv ⟨none, none, none, none, none, none, i1, rfl, b1.draw P1, by omega⟩ ?_ fun σ2 H2 h2 => ⟨_, by omega, h2⟩⟩
  rintro k σ2 H2 hk ⟨v2, v3, v4, v5, v6, v7, i, e2, b2, u2⟩
  rw [e2]
  have ilo : 0 ≤ i := by obtain ⟨j, h⟩ := b2.pen; exact h.low
  -- a weighing
  refine ⟨fun σ' H' => ∃ (aw : Addr) (ws : List Int) (b e d i2 : Int), σ' = [some (.ref a), some (.ref p), some (.int (0 + (k : Int))), some (.ref aw), some (.int b), some (.int e), some (.int d), v7] ∧ Bo Pt p c ms i2 H' ∧ i2 ≤ i + 61 ∧ H' aw = some (.tup (ws.map V.int)) ∧ Fine ws d ∧ 0 < ws.length ∧ 0 < b ∧ b ≤ 100000 ∧ -255 ≤ e ∧ e ≤ 255 ∧ d ≤ 255, ?_, ?_⟩
  · refine ⟨_, rfl, Nat.le_of_ble_eq_true rfl, fun l hl => ?_⟩
    obtain ⟨j9, p9⟩ := (b2.same (same_new hl (.lst [.int 300, .int 300, .int 1000]))).pen
    refine ⟨_, rfl, p, c, ms, i, j9, 3, rfl, p9, by omega, by decide, by decide, fun r i3 j3 c1 c2 c3 c4 => ?_⟩
    obtain ⟨v, vm, va, el, b3, kp⟩ := b2.pick (vs := [.int 300, .int 300, .int 1000]) (j1 := j3) hl c1 c2 c3 c4 (by omega)
    obtain ⟨lim, rfl, l1, l2⟩ : ∃ lim, v = .int lim ∧ 255 ≤ lim ∧ lim ≤ 1000 := by
      simp only [List.mem_cons, List.not_mem_nil, or_false] at vm
      rcases vm with rfl | rfl | rfl
      · exact ⟨_, rfl, by decide, by decide⟩
      · exact ⟨_, rfl, by decide, by decide⟩
      · exact ⟨_, rfl, by decide, by decide⟩
    obtain ⟨j4, p4⟩ := b3.pen
    refine ⟨l, _, r, .int lim, rfl, rfl, SqL.of el, va, p, c, ms, i3, j4, lim, rfl, p4, by omega, l1, l2, fun t aw ws b e d i4 H4 P4 u4 et ea fi hlen q1 q2 q3 q4 q5 => ?_⟩
    exact ⟨t, _, rfl, SqT.of et, rfl, _, _, rfl, _, _, rfl, _, _, rfl, _, _, rfl, rfl, aw, ws, b, e, d, i4, rfl, b3.draw P4, by omega, ea, fi, hlen, q1, q2, q3, q4, q5⟩
  rintro σ3 H3 ⟨aw, ws, b, e, d, i2, e3, b3, u3, ea, fi, hlen, q1, q2, q3, q4, q5⟩
  rw [e3]
  refine ⟨fun σ' H' => ∃ r, σ' = [some (.ref a), some (.ref p), some (.int (0 + (k : Int))), some (.ref aw), some (.int b), some (.int e), some (.int d), some (.ref r)] ∧ Bo Pt p c ms i2 H' ∧ H' aw = some (.tup (ws.map V.int)) ∧ Found H' r ws b e d, ⟨_, rfl, _, rfl, _, rfl, _, rfl, wo_use b3 ea fi hlen q1 q2 (by omega) (by omega) (by omega) fun r H' b4 ea4 f4 => ⟨r, rfl, b4, ea4, f4⟩⟩, ?_⟩
  rintro σ4 H4 ⟨r, e4, b4, ea4, f4⟩
  rw [e4]
  let S : L2.St := [some (.ref a), some (.ref p), some (.int (0 + (k : Int))), some (.ref aw), some (.int b), some (.int e), some (.int d), some (.ref r)]
  refine ⟨fun σ' H' => σ' = S ∧ Bo Pt p c ms i2 H' ∧ H' aw = some (.tup (ws.map V.int)), ?_, ?_⟩
  · obtain ⟨x, y, ks, er, hr', hx, hy, hlen', hk', he, hm⟩ := f4.ex
    exact ⟨_, rfl, _, rfl, _, rfl, _, rfl, _, rfl, aw, r, x, y, ws, ks, b, e, d, er, rfl, SqT.of ea4, fi, q1, q2, by omega, hr', hx, hy, hlen', hk', he, hm, fun H' s' => ⟨_, rfl, iteC rfl ⟨rfl, b4.same s', s' _ _ ea4⟩⟩⟩
  rintro σ5 H5 ⟨e5, b5, ea5⟩
  rw [e5]
  refine ⟨fun σ' H' => σ' = S ∧ Bo Pt p c ms i2 H' ∧ H' aw = some (.tup (ws.map V.int)), ?_, ?_⟩
  · refine ⟨_, rfl, rfl, _, rfl, ite2 (fun z => ?_) (fun z => ⟨rfl, b5, ea5⟩)⟩
    obtain rfl : d = 255 := by have z := of_decide_eq_true z; cases z; rfl
    exact ⟨_, rfl, _, rfl, _, rfl, _, rfl, _, rfl, wo_use b5 ea5 fi hlen q1 q2 (by omega) (by omega) (by omega) fun r' H' b6 ea6 f6 => let ⟨x, y, ks, er, hr', hx, hy, hlen', hk, he, hm⟩ := f6.ex; ⟨aw, r', x, y, ws, ks, b, 0, 255, er, rfl, SqT.of ea6, fi, q1, q2, by omega, hr', hx, hy, hlen', hk, he, hm, fun H'' s' => ⟨_, rfl, iteC rfl ⟨rfl, b6.same s', s' _ _ ea6⟩⟩⟩⟩
  rintro σ6 H6 ⟨e6, b6, ea6⟩
  rw [e6]
  have fin : ∀ {H' : Hp}, Bo Pt p c ms i2 H' → Pv (k + 1) S H' := fun {H'} b7 => ⟨_, _, _, _, _, _, i2, rfl, b7, by omega⟩
  refine ⟨_, rfl, rfl, _, rfl, ite2 (fun z => ?_) (fun z => fin b6)⟩
  obtain rfl : d = 255 := by have z := of_decide_eq_true z; cases z; rfl
  exact ⟨_, rfl, _, rfl, _, rfl, _, rfl, _, rfl, wo_use b6 ea6 fi hlen (by omega) (by omega) (by omega) (by omega) (by omega) fun r' H' b7 ea7 f7 => let ⟨x, y, ks, er, hr', hx, hy, hlen', hk, he, hm⟩ := f7.ex; ⟨aw, r', x, y, ws, ks, 1, e, 255, er, rfl, SqT.of ea7, fi, by omega, by omega, by omega, hr', hx, hy, hlen', hk, he, hm, fun H'' s' => ⟨_, rfl, iteC rfl (fin (b7.same s'))⟩⟩⟩
end
end Mk
namespace Mk
open PySem L2 PyProof.Rows
section
variable {P : Program} {w : World} {K : PySem.W.Frag} {mg : Str → Option Value} {base : Heap}
theorem len_of {us ds : List Value} {n : Nat} (h : (us ++ ds).length = n) : us.length = n - ds.length := by rw [List.length_append] at h; omega
theorem us1 {us : List Value} (h : us.length = 1) : ∃ u0, us = [u0] := match us, h with | [u0], _ => ⟨u0, rfl⟩
end
set_option maxHeartbeats 4000000 in
theorem all_mk {l : PySem.W.OpenLaw} {w : World} {K : PySem.W.Frag} {h : Heap} {mg : Str → Option Value} {fa : Addr} {t_DEEPEST t_GREATEST_WEIGHT t_GREATEST_BY t_MOST_PLACES t_WIDEST : Tok} {CS CD CT CW CP cW Pt dD_NT : Addr} {odcS : Option Addr} {cdcS : ClassData} {slcS : Array (Option Value)} {odcD : Option Addr} {cdcD : ClassData} {slcD : Array (Option Value)} {odcT : Option Addr} {cdcT : ClassData} {slcT : Array (Option Value)} {odcW : Option Addr} {cdcW : ClassData} {slcW : Array (Option Value)} {odcP : Option Addr} {cdcP : ClassData} {slcP : Array (Option Value)} {f_NT : Addr} {od_NT an_NT : Option Addr} {sl_NT : Array (Option Value)} {oc_NT kV_NT dc_NT pm_NT cd_NT ct_NT : Value} (X : K.In h) (G : h.Ns mainGlobals mg) (hfa : mg "law" = some (.ref fa))
    {f_He : Addr} {od_He an_He : Option Addr} {sl_He : Array (Option Value)} {oc_He kV_He dc_He pm_He cd_He ct_He : Value}
    {f_Rd : Addr} {od_Rd an_Rd : Option Addr} {sl_Rd : Array (Option Value)} {oc_Rd kV_Rd dc_Rd pm_Rd cd_Rd ct_Rd : Value}
    {f_W : Addr} {od_W an_W : Option Addr} {sl_W : Array (Option Value)} {oc_W kV_W dc_W pm_W cd_W ct_W : Value}
    {f_B : Addr} {od_B an_B : Option Addr} {sl_B : Array (Option Value)} {oc_B kV_B dc_B pm_B cd_B ct_B : Value}
    {f_U : Addr} {od_U an_U : Option Addr} {sl_U : Array (Option Value)} {oc_U kV_U dc_U pm_U cd_U ct_U : Value}
    {f_D : Addr} {od_D an_D : Option Addr} {sl_D : Array (Option Value)} {oc_D kV_D dc_D pm_D cd_D ct_D : Value}
    {f_Wt : Addr} {od_Wt an_Wt : Option Addr} {sl_Wt : Array (Option Value)} {oc_Wt kV_Wt dc_Wt pm_Wt cd_Wt ct_Wt : Value}
    {f_By : Addr} {od_By an_By : Option Addr} {sl_By : Array (Option Value)} {oc_By kV_By dc_By pm_By cd_By ct_By : Value}
    {f_Pl : Addr} {od_Pl an_Pl : Option Addr} {sl_Pl : Array (Option Value)} {oc_Pl kV_Pl dc_Pl pm_Pl cd_Pl ct_Pl : Value}
    {f_Wd : Addr} {od_Wd an_Wd : Option Addr} {sl_Wd : Array (Option Value)} {oc_Wd kV_Wd dc_Wd pm_Wd cd_Wd ct_Wd : Value}
    {f_To : Addr} {od_To an_To : Option Addr} {sl_To : Array (Option Value)} {oc_To kV_To dc_To pm_To cd_To ct_To : Value}
    {f_Wi : Addr} {od_Wi an_Wi : Option Addr} {sl_Wi : Array (Option Value)} {oc_Wi kV_Wi dc_Wi pm_Wi cd_Wi ct_Wi : Value}
    {f_La : Addr} {od_La an_La : Option Addr} {sl_La : Array (Option Value)} {oc_La kV_La dc_La pm_La cd_La ct_La : Value}
    {f_Nf : Addr} {od_Nf an_Nf : Option Addr} {sl_Nf : Array (Option Value)} {oc_Nf kV_Nf dc_Nf pm_Nf cd_Nf ct_Nf : Value}
    {f_Cw : Addr} {od_Cw an_Cw : Option Addr} {sl_Cw : Array (Option Value)} {oc_Cw kV_Cw dc_Cw pm_Cw cd_Cw ct_Cw : Value}
    {f_Cd : Addr} {od_Cd an_Cd : Option Addr} {sl_Cd : Array (Option Value)} {oc_Cd kV_Cd dc_Cd pm_Cd cd_Cd ct_Cd : Value}
    {f_Lo : Addr} {od_Lo an_Lo : Option Addr} {sl_Lo : Array (Option Value)} {oc_Lo kV_Lo dc_Lo pm_Lo cd_Lo ct_Lo : Value}
    {f_Er : Addr} {od_Er an_Er : Option Addr} {sl_Er : Array (Option Value)} {oc_Er kV_Er dc_Er pm_Er cd_Er ct_Er : Value}
    {f_Wo : Addr} {od_Wo an_Wo : Option Addr} {sl_Wo : Array (Option Value)} {oc_Wo kV_Wo dc_Wo pm_Wo ct_Wo : Value}
    {f_Pe : Addr} {od_Pe an_Pe : Option Addr} {sl_Pe : Array (Option Value)} {oc_Pe kV_Pe dc_Pe pm_Pe cd_Pe ct_Pe : Value}
    {f_Dr : Addr} {od_Dr an_Dr : Option Addr} {sl_Dr : Array (Option Value)} {oc_Dr kV_Dr dc_Dr pm_Dr cd_Dr ct_Dr : Value}
    {f_Lp : Addr} {od_Lp an_Lp : Option Addr} {sl_Lp : Array (Option Value)} {oc_Lp kV_Lp dc_Lp pm_Lp cd_Lp ct_Lp : Value}
    {f_Lh : Addr} {od_Lh an_Lh : Option Addr} {sl_Lh : Array (Option Value)} {oc_Lh kV_Lh dc_Lh pm_Lh cd_Lh ct_Lh : Value}
    {f_Lr : Addr} {od_Lr an_Lr : Option Addr} {sl_Lr : Array (Option Value)} {oc_Lr kV_Lr dc_Lr pm_Lr cd_Lr ct_Lr : Value}
    {f_We : Addr} {od_We an_We : Option Addr} {sl_We : Array (Option Value)} {oc_We kV_We dc_We pm_We cd_We ct_We : Value}
    {f_Ls : Addr} {od_Ls an_Ls : Option Addr} {sl_Ls : Array (Option Value)} {oc_Ls kV_Ls dc_Ls pm_Ls cd_Ls ct_Ls : Value}
    {f_Lg : Addr} {od_Lg an_Lg : Option Addr} {sl_Lg : Array (Option Value)} {oc_Lg kV_Lg dc_Lg pm_Lg cd_Lg ct_Lg : Value}
    {f_Ll : Addr} {od_Ll an_Ll : Option Addr} {sl_Ll : Array (Option Value)} {oc_Ll kV_Ll dc_Ll pm_Ll cd_Ll ct_Ll : Value}
    {f_Ri : Addr} {od_Ri an_Ri : Option Addr} {sl_Ri : Array (Option Value)} {oc_Ri kV_Ri dc_Ri pm_Ri cd_Ri ct_Ri : Value}
    {f_Rf : Addr} {od_Rf an_Rf : Option Addr} {sl_Rf : Array (Option Value)} {oc_Rf kV_Rf dc_Rf pm_Rf cd_Rf ct_Rf : Value}
    {f_Bw : Addr} {od_Bw an_Bw : Option Addr} {sl_Bw : Array (Option Value)} {oc_Bw kV_Bw dc_Bw pm_Bw cd_Bw ct_Bw : Value}
    {f_Rr : Addr} {od_Rr an_Rr : Option Addr} {sl_Rr : Array (Option Value)} {oc_Rr kV_Rr dc_Rr pm_Rr cd_Rr ct_Rr : Value}
    {f_L : Addr} {od_L an_L : Option Addr} {sl_L : Array (Option Value)} {oc_L kV_L dc_L pm_L cd_L ct_L : Value}
    (a_He : PySem.W.nsIn K mainGlobals "held" = some (some (.ref f_He)))
    (l_He : K.lookup f_He = some ⟨oc_He, od_He, .func (PySem.W.fnOf "held" "held" (defArgs sHeld) (defBody sHeld) (defScope sHeld) .none kV_He dc_He pm_He an_He cd_He ct_He), sl_He⟩)
    (c_He : PySem.W.codeIn K cd_He "held" = true)
    (k_He : PySem.W.keepIn K (.ref f_He) = true)
    (a_Rd : PySem.W.nsIn K mainGlobals "rounded" = some (some (.ref f_Rd)))
    (l_Rd : K.lookup f_Rd = some ⟨oc_Rd, od_Rd, .func (PySem.W.fnOf "rounded" "rounded" (defArgs sRounded) (defBody sRounded) (defScope sRounded) .none kV_Rd dc_Rd pm_Rd an_Rd cd_Rd ct_Rd), sl_Rd⟩)
    (c_Rd : PySem.W.codeIn K cd_Rd "rounded" = true)
    (k_Rd : PySem.W.keepIn K (.ref f_Rd) = true)
    (a_W : PySem.W.nsIn K mainGlobals "is_whole" = some (some (.ref f_W)))
    (l_W : K.lookup f_W = some ⟨oc_W, od_W, .func (PySem.W.fnOf "is_whole" "is_whole" (defArgs sWhole) (defBody sWhole) (defScope sWhole) .none kV_W dc_W pm_W an_W cd_W ct_W), sl_W⟩)
    (c_W : PySem.W.codeIn K cd_W "is_whole" = true)
    (k_W : PySem.W.keepIn K (.ref f_W) = true)
    (a_B : PySem.W.nsIn K mainGlobals "is_between" = some (some (.ref f_B)))
    (l_B : K.lookup f_B = some ⟨oc_B, od_B, .func (PySem.W.fnOf "is_between" "is_between" (defArgs sBetween) (defBody sBetween) (defScope sBetween) .none kV_B dc_B pm_B an_B cd_B ct_B), sl_B⟩)
    (c_B : PySem.W.codeIn K cd_B "is_between" = true)
    (k_B : PySem.W.keepIn K (.ref f_B) = true)
    (a_U : PySem.W.nsIn K mainGlobals "is_tuple" = some (some (.ref f_U)))
    (l_U : K.lookup f_U = some ⟨oc_U, od_U, .func (PySem.W.fnOf "is_tuple" "is_tuple" (defArgs sTuple) (defBody sTuple) (defScope sTuple) .none kV_U dc_U pm_U an_U cd_U ct_U), sl_U⟩)
    (c_U : PySem.W.codeIn K cd_U "is_tuple" = true)
    (k_U : PySem.W.keepIn K (.ref f_U) = true)
    (a_D : PySem.W.nsIn K mainGlobals "is_depth" = some (some (.ref f_D)))
    (l_D : K.lookup f_D = some ⟨oc_D, od_D, .func (PySem.W.fnOf "is_depth" "is_depth" (defArgs sDepth) (defBody sDepth) (defScope sDepth) .none kV_D dc_D pm_D an_D cd_D ct_D), sl_D⟩)
    (c_D : PySem.W.codeIn K cd_D "is_depth" = true)
    (k_D : PySem.W.keepIn K (.ref f_D) = true)
    (a_Wt : PySem.W.nsIn K mainGlobals "are_weights" = some (some (.ref f_Wt)))
    (l_Wt : K.lookup f_Wt = some ⟨oc_Wt, od_Wt, .func (PySem.W.fnOf "are_weights" "are_weights" (defArgs sWeights) (defBody sWeights) (defScope sWeights) .none kV_Wt dc_Wt pm_Wt an_Wt cd_Wt ct_Wt), sl_Wt⟩)
    (c_Wt : PySem.W.codeIn K cd_Wt "are_weights" = true)
    (k_Wt : PySem.W.keepIn K (.ref f_Wt) = true)
    (a_By : PySem.W.nsIn K mainGlobals "is_by" = some (some (.ref f_By)))
    (l_By : K.lookup f_By = some ⟨oc_By, od_By, .func (PySem.W.fnOf "is_by" "is_by" (defArgs sBy) (defBody sBy) (defScope sBy) .none kV_By dc_By pm_By an_By cd_By ct_By), sl_By⟩)
    (c_By : PySem.W.codeIn K cd_By "is_by" = true)
    (k_By : PySem.W.keepIn K (.ref f_By) = true)
    (a_Pl : PySem.W.nsIn K mainGlobals "is_plus" = some (some (.ref f_Pl)))
    (l_Pl : K.lookup f_Pl = some ⟨oc_Pl, od_Pl, .func (PySem.W.fnOf "is_plus" "is_plus" (defArgs sPlus) (defBody sPlus) (defScope sPlus) .none kV_Pl dc_Pl pm_Pl an_Pl cd_Pl ct_Pl), sl_Pl⟩)
    (c_Pl : PySem.W.codeIn K cd_Pl "is_plus" = true)
    (k_Pl : PySem.W.keepIn K (.ref f_Pl) = true)
    (a_Wd : PySem.W.nsIn K mainGlobals "width_of" = some (some (.ref f_Wd)))
    (l_Wd : K.lookup f_Wd = some ⟨oc_Wd, od_Wd, .func (PySem.W.fnOf "width_of" "width_of" (defArgs sWidth) (defBody sWidth) (defScope sWidth) .none kV_Wd dc_Wd pm_Wd an_Wd cd_Wd ct_Wd), sl_Wd⟩)
    (c_Wd : PySem.W.codeIn K cd_Wd "width_of" = true)
    (k_Wd : PySem.W.keepIn K (.ref f_Wd) = true)
    (a_To : PySem.W.nsIn K mainGlobals "totals_along" = some (some (.ref f_To)))
    (l_To : K.lookup f_To = some ⟨oc_To, od_To, .func (PySem.W.fnOf "totals_along" "totals_along" (defArgs sTot) (defBody sTot) (defScope sTot) .none kV_To dc_To pm_To an_To cd_To ct_To), sl_To⟩)
    (c_To : PySem.W.codeIn K cd_To "totals_along" = true)
    (k_To : PySem.W.keepIn K (.ref f_To) = true)
    (a_Wi : PySem.W.nsIn K mainGlobals "widened" = some (some (.ref f_Wi)))
    (l_Wi : K.lookup f_Wi = some ⟨oc_Wi, od_Wi, .func (PySem.W.fnOf "widened" "widened" (defArgs sWid) (defBody sWid) (defScope sWid) .none kV_Wi dc_Wi pm_Wi an_Wi cd_Wi ct_Wi), sl_Wi⟩)
    (c_Wi : PySem.W.codeIn K cd_Wi "widened" = true)
    (k_Wi : PySem.W.keepIn K (.ref f_Wi) = true)
    (a_La : PySem.W.nsIn K mainGlobals "layered_sums" = some (some (.ref f_La)))
    (l_La : K.lookup f_La = some ⟨oc_La, od_La, .func (PySem.W.fnOf "layered_sums" "layered_sums" (defArgs sLay) (defBody sLay) (defScope sLay) .none kV_La dc_La pm_La an_La cd_La ct_La), sl_La⟩)
    (c_La : PySem.W.codeIn K cd_La "layered_sums" = true)
    (k_La : PySem.W.keepIn K (.ref f_La) = true)
    (a_Nf : PySem.W.nsIn K mainGlobals "numbers_for" = some (some (.ref f_Nf)))
    (l_Nf : K.lookup f_Nf = some ⟨oc_Nf, od_Nf, .func (PySem.W.fnOf "numbers_for" "numbers_for" (defArgs sNumF) (defBody sNumF) (defScope sNumF) .none kV_Nf dc_Nf pm_Nf an_Nf cd_Nf ct_Nf), sl_Nf⟩)
    (c_Nf : PySem.W.codeIn K cd_Nf "numbers_for" = true)
    (k_Nf : PySem.W.keepIn K (.ref f_Nf) = true)
    (a_Cw : PySem.W.nsIn K mainGlobals "check_weighing" = some (some (.ref f_Cw)))
    (l_Cw : K.lookup f_Cw = some ⟨oc_Cw, od_Cw, .func (PySem.W.fnOf "check_weighing" "check_weighing" (defArgs sCW) (defBody sCW) (defScope sCW) .none kV_Cw dc_Cw pm_Cw an_Cw cd_Cw ct_Cw), sl_Cw⟩)
    (c_Cw : PySem.W.codeIn K cd_Cw "check_weighing" = true)
    (k_Cw : PySem.W.keepIn K (.ref f_Cw) = true)
    (a_Cd : PySem.W.nsIn K mainGlobals "check_width" = some (some (.ref f_Cd)))
    (l_Cd : K.lookup f_Cd = some ⟨oc_Cd, od_Cd, .func (PySem.W.fnOf "check_width" "check_width" (defArgs sCWd) (defBody sCWd) (defScope sCWd) .none kV_Cd dc_Cd pm_Cd an_Cd cd_Cd ct_Cd), sl_Cd⟩)
    (c_Cd : PySem.W.codeIn K cd_Cd "check_width" = true)
    (k_Cd : PySem.W.keepIn K (.ref f_Cd) = true)
    (a_Lo : PySem.W.nsIn K mainGlobals "in_lowest_terms" = some (some (.ref f_Lo)))
    (l_Lo : K.lookup f_Lo = some ⟨oc_Lo, od_Lo, .func (PySem.W.fnOf "in_lowest_terms" "in_lowest_terms" (defArgs sLow) (defBody sLow) (defScope sLow) .none kV_Lo dc_Lo pm_Lo an_Lo cd_Lo ct_Lo), sl_Lo⟩)
    (c_Lo : PySem.W.codeIn K cd_Lo "in_lowest_terms" = true)
    (k_Lo : PySem.W.keepIn K (.ref f_Lo) = true)
    (a_Er : PySem.W.nsIn K mainGlobals "error_of" = some (some (.ref f_Er)))
    (l_Er : K.lookup f_Er = some ⟨oc_Er, od_Er, .func (PySem.W.fnOf "error_of" "error_of" (defArgs sErr) (defBody sErr) (defScope sErr) .none kV_Er dc_Er pm_Er an_Er cd_Er ct_Er), sl_Er⟩)
    (c_Er : PySem.W.codeIn K cd_Er "error_of" = true)
    (k_Er : PySem.W.keepIn K (.ref f_Er) = true)
    (a_Wo : PySem.W.nsIn K mainGlobals "worst" = some (some (.ref f_Wo)))
    (l_Wo : K.lookup f_Wo = some ⟨oc_Wo, od_Wo, .func (PySem.W.fnOf "worst" "worst" (defArgs sWo) (defBody sWo) (defScope sWo) .none kV_Wo dc_Wo pm_Wo an_Wo (.ref cW) ct_Wo), sl_Wo⟩)
    (c_Wo : PySem.W.codeIn K (.ref cW) "worst" = true)
    (k_Wo : PySem.W.keepIn K (.ref f_Wo) = true)
    (a_Pe : PySem.W.nsIn K mainGlobals "_law_pen" = some (some (.ref f_Pe)))
    (l_Pe : K.lookup f_Pe = some ⟨oc_Pe, od_Pe, .func (PySem.W.fnOf "_law_pen" "_law_pen" (defArgs sPen) (defBody sPen) (defScope sPen) .none kV_Pe dc_Pe pm_Pe an_Pe cd_Pe ct_Pe), sl_Pe⟩)
    (c_Pe : PySem.W.codeIn K cd_Pe "_law_pen" = true)
    (k_Pe : PySem.W.keepIn K (.ref f_Pe) = true)
    (a_Dr : PySem.W.nsIn K mainGlobals "_law_draw" = some (some (.ref f_Dr)))
    (l_Dr : K.lookup f_Dr = some ⟨oc_Dr, od_Dr, .func (PySem.W.fnOf "_law_draw" "_law_draw" (defArgs sDraw) (defBody sDraw) (defScope sDraw) .none kV_Dr dc_Dr pm_Dr an_Dr cd_Dr ct_Dr), sl_Dr⟩)
    (c_Dr : PySem.W.codeIn K cd_Dr "_law_draw" = true)
    (k_Dr : PySem.W.keepIn K (.ref f_Dr) = true)
    (a_Lp : PySem.W.nsIn K mainGlobals "_law_plus" = some (some (.ref f_Lp)))
    (l_Lp : K.lookup f_Lp = some ⟨oc_Lp, od_Lp, .func (PySem.W.fnOf "_law_plus" "_law_plus" (defArgs sLPl) (defBody sLPl) (defScope sLPl) .none kV_Lp dc_Lp pm_Lp an_Lp cd_Lp ct_Lp), sl_Lp⟩)
    (c_Lp : PySem.W.codeIn K cd_Lp "_law_plus" = true)
    (k_Lp : PySem.W.keepIn K (.ref f_Lp) = true)
    (a_Lh : PySem.W.nsIn K mainGlobals "_law_held" = some (some (.ref f_Lh)))
    (l_Lh : K.lookup f_Lh = some ⟨oc_Lh, od_Lh, .func (PySem.W.fnOf "_law_held" "_law_held" (defArgs sLHe) (defBody sLHe) (defScope sLHe) .none kV_Lh dc_Lh pm_Lh an_Lh cd_Lh ct_Lh), sl_Lh⟩)
    (c_Lh : PySem.W.codeIn K cd_Lh "_law_held" = true)
    (k_Lh : PySem.W.keepIn K (.ref f_Lh) = true)
    (a_Lr : PySem.W.nsIn K mainGlobals "_law_round" = some (some (.ref f_Lr)))
    (l_Lr : K.lookup f_Lr = some ⟨oc_Lr, od_Lr, .func (PySem.W.fnOf "_law_round" "_law_round" (defArgs sLRo) (defBody sLRo) (defScope sLRo) .none kV_Lr dc_Lr pm_Lr an_Lr cd_Lr ct_Lr), sl_Lr⟩)
    (c_Lr : PySem.W.codeIn K cd_Lr "_law_round" = true)
    (k_Lr : PySem.W.keepIn K (.ref f_Lr) = true)
    (a_We : PySem.W.nsIn K mainGlobals "_law_weighing" = some (some (.ref f_We)))
    (l_We : K.lookup f_We = some ⟨oc_We, od_We, .func (PySem.W.fnOf "_law_weighing" "_law_weighing" (defArgs sWei) (defBody sWei) (defScope sWei) .none kV_We dc_We pm_We an_We cd_We ct_We), sl_We⟩)
    (c_We : PySem.W.codeIn K cd_We "_law_weighing" = true)
    (k_We : PySem.W.keepIn K (.ref f_We) = true)
    (a_Ls : PySem.W.nsIn K mainGlobals "_law_sums" = some (some (.ref f_Ls)))
    (l_Ls : K.lookup f_Ls = some ⟨oc_Ls, od_Ls, .func (PySem.W.fnOf "_law_sums" "_law_sums" (defArgs sLSm) (defBody sLSm) (defScope sLSm) .none kV_Ls dc_Ls pm_Ls an_Ls cd_Ls ct_Ls), sl_Ls⟩)
    (c_Ls : PySem.W.codeIn K cd_Ls "_law_sums" = true)
    (k_Ls : PySem.W.keepIn K (.ref f_Ls) = true)
    (a_Lg : PySem.W.nsIn K mainGlobals "_law_gap" = some (some (.ref f_Lg)))
    (l_Lg : K.lookup f_Lg = some ⟨oc_Lg, od_Lg, .func (PySem.W.fnOf "_law_gap" "_law_gap" (defArgs sLGa) (defBody sLGa) (defScope sLGa) .none kV_Lg dc_Lg pm_Lg an_Lg cd_Lg ct_Lg), sl_Lg⟩)
    (c_Lg : PySem.W.codeIn K cd_Lg "_law_gap" = true)
    (k_Lg : PySem.W.keepIn K (.ref f_Lg) = true)
    (a_Ll : PySem.W.nsIn K mainGlobals "_law_low" = some (some (.ref f_Ll)))
    (l_Ll : K.lookup f_Ll = some ⟨oc_Ll, od_Ll, .func (PySem.W.fnOf "_law_low" "_law_low" (defArgs sLLo) (defBody sLLo) (defScope sLLo) .none kV_Ll dc_Ll pm_Ll an_Ll cd_Ll ct_Ll), sl_Ll⟩)
    (c_Ll : PySem.W.codeIn K cd_Ll "_law_low" = true)
    (k_Ll : PySem.W.keepIn K (.ref f_Ll) = true)
    (a_Ri : PySem.W.nsIn K mainGlobals "_law_right" = some (some (.ref f_Ri)))
    (l_Ri : K.lookup f_Ri = some ⟨oc_Ri, od_Ri, .func (PySem.W.fnOf "_law_right" "_law_right" (defArgs sLRi) (defBody sLRi) (defScope sLRi) .none kV_Ri dc_Ri pm_Ri an_Ri cd_Ri ct_Ri), sl_Ri⟩)
    (c_Ri : PySem.W.codeIn K cd_Ri "_law_right" = true)
    (k_Ri : PySem.W.keepIn K (.ref f_Ri) = true)
    (a_Rf : PySem.W.nsIn K mainGlobals "_law_refusal" = some (some (.ref f_Rf)))
    (l_Rf : K.lookup f_Rf = some ⟨oc_Rf, od_Rf, .func (PySem.W.fnOf "_law_refusal" "_law_refusal" (defArgs sLRf) (defBody sLRf) (defScope sLRf) .none kV_Rf dc_Rf pm_Rf an_Rf cd_Rf ct_Rf), sl_Rf⟩)
    (c_Rf : PySem.W.codeIn K cd_Rf "_law_refusal" = true)
    (k_Rf : PySem.W.keepIn K (.ref f_Rf) = true)
    (a_Bw : PySem.W.nsIn K mainGlobals "_law_bad_weights" = some (some (.ref f_Bw)))
    (l_Bw : K.lookup f_Bw = some ⟨oc_Bw, od_Bw, .func (PySem.W.fnOf "_law_bad_weights" "_law_bad_weights" (defArgs sLBw) (defBody sLBw) (defScope sLBw) .none kV_Bw dc_Bw pm_Bw an_Bw cd_Bw ct_Bw), sl_Bw⟩)
    (c_Bw : PySem.W.codeIn K cd_Bw "_law_bad_weights" = true)
    (k_Bw : PySem.W.keepIn K (.ref f_Bw) = true)
    (a_Rr : PySem.W.nsIn K mainGlobals "_law_refused_right" = some (some (.ref f_Rr)))
    (l_Rr : K.lookup f_Rr = some ⟨oc_Rr, od_Rr, .func (PySem.W.fnOf "_law_refused_right" "_law_refused_right" (defArgs sLRr) (defBody sLRr) (defScope sLRr) .none kV_Rr dc_Rr pm_Rr an_Rr cd_Rr ct_Rr), sl_Rr⟩)
    (c_Rr : PySem.W.codeIn K cd_Rr "_law_refused_right" = true)
    (k_Rr : PySem.W.keepIn K (.ref f_Rr) = true)
    (a_L : PySem.W.nsIn K mainGlobals "law" = some (some (.ref f_L)))
    (l_L : K.lookup f_L = some ⟨oc_L, od_L, .func (PySem.W.fnOf "law" "law" (defArgs sLaw) (defBody sLaw) (defScope sLaw) .none kV_L dc_L pm_L an_L cd_L ct_L), sl_L⟩)
    (c_L : PySem.W.codeIn K cd_L "law" = true)
    (k_L : PySem.W.keepIn K (.ref f_L) = true)
    (v_DEEPEST : PySem.W.nsIn K mainGlobals "DEEPEST" = some (some (.int 65535 t_DEEPEST)))
    (v_GREATEST_WEIGHT : PySem.W.nsIn K mainGlobals "GREATEST_WEIGHT" = some (some (.int 1000 t_GREATEST_WEIGHT)))
    (v_GREATEST_BY : PySem.W.nsIn K mainGlobals "GREATEST_BY" = some (some (.int 100000 t_GREATEST_BY)))
    (v_MOST_PLACES : PySem.W.nsIn K mainGlobals "MOST_PLACES" = some (some (.int 25 t_MOST_PLACES)))
    (v_WIDEST : PySem.W.nsIn K mainGlobals "WIDEST" = some (some (.int 3000 t_WIDEST)))
    (z_isinstance : PySem.W.nsIn K mainGlobals "isinstance" = some none)
    (z_bool : PySem.W.nsIn K mainGlobals "bool" = some none)
    (z_int : PySem.W.nsIn K mainGlobals "int" = some none)
    (z_str : PySem.W.nsIn K mainGlobals "str" = some none)
    (z_tuple : PySem.W.nsIn K mainGlobals "tuple" = some none)
    (z_list : PySem.W.nsIn K mainGlobals "list" = some none)
    (z_len : PySem.W.nsIn K mainGlobals "len" = some none)
    (z_all : PySem.W.nsIn K mainGlobals "all" = some none)
    (z_zip : PySem.W.nsIn K mainGlobals "zip" = some none)
    (z_repr : PySem.W.nsIn K mainGlobals "repr" = some none)
    (z_range : PySem.W.nsIn K mainGlobals "range" = some none)
    (z_min : PySem.W.nsIn K mainGlobals "min" = some none)
    (z_max : PySem.W.nsIn K mainGlobals "max" = some none)
    (z_abs : PySem.W.nsIn K mainGlobals "abs" = some none)
    (z_sum : PySem.W.nsIn K mainGlobals "sum" = some none)
    (n_S : PySem.W.nsIn K mainGlobals "NoStage" = some (some (.ref CS)))
    (n_D : PySem.W.nsIn K mainGlobals "NoDivisor" = some (some (.ref CD)))
    (n_T : PySem.W.nsIn K mainGlobals "NoTone" = some (some (.ref CT)))
    (n_W : PySem.W.nsIn K mainGlobals "TooWide" = some (some (.ref CW)))
    (n_P : PySem.W.nsIn K mainGlobals "PixelError" = some (some (.ref CP)))
    (o_S : K.lookup CS = some ⟨.type "type", odcS, .cls cdcS, slcS⟩)
    (o_D : K.lookup CD = some ⟨.type "type", odcD, .cls cdcD, slcD⟩)
    (o_T : K.lookup CT = some ⟨.type "type", odcT, .cls cdcT, slcT⟩)
    (o_W : K.lookup CW = some ⟨.type "type", odcW, .cls cdcW, slcW⟩)
    (o_P : K.lookup CP = some ⟨.type "type", odcP, .cls cdcP, slcP⟩)
    (kSS : PySem.W.kitOne K (.ref CS) (.ref CS) = some true)
    (kSD : PySem.W.kitOne K (.ref CS) (.ref CD) = some false)
    (kST : PySem.W.kitOne K (.ref CS) (.ref CT) = some false)
    (kSW : PySem.W.kitOne K (.ref CS) (.ref CW) = some false)
    (kSP : PySem.W.kitOne K (.ref CS) (.ref CP) = some true)
    (g1S : PySem.W.findIn K (.ref CS) "__getattribute__" = some (some (.builtin "BaseException.__getattribute__")))
    (g2S : PySem.W.findIn K (.ref CS) "__getattr__" = some none)
    (hcS : PySem.W.isClsIn K CS = true)
    (f1S : PySem.W.findIn K (.ref CS) "__class__" = some (some (.builtin "object.__class__")))
    (omS : PySem.W.mroIn K CS (.type "object") = some true)
    (obS : PySem.W.mroIn K CS (.type "BaseException") = some true)
    (kDS : PySem.W.kitOne K (.ref CD) (.ref CS) = some false)
    (kDD : PySem.W.kitOne K (.ref CD) (.ref CD) = some true)
    (kDT : PySem.W.kitOne K (.ref CD) (.ref CT) = some false)
    (kDW : PySem.W.kitOne K (.ref CD) (.ref CW) = some false)
    (kDP : PySem.W.kitOne K (.ref CD) (.ref CP) = some false)
    (g1D : PySem.W.findIn K (.ref CD) "__getattribute__" = some (some (.builtin "BaseException.__getattribute__")))
    (g2D : PySem.W.findIn K (.ref CD) "__getattr__" = some none)
    (hcD : PySem.W.isClsIn K CD = true)
    (f1D : PySem.W.findIn K (.ref CD) "__class__" = some (some (.builtin "object.__class__")))
    (omD : PySem.W.mroIn K CD (.type "object") = some true)
    (obD : PySem.W.mroIn K CD (.type "BaseException") = some true)
    (kTS : PySem.W.kitOne K (.ref CT) (.ref CS) = some false)
    (kTD : PySem.W.kitOne K (.ref CT) (.ref CD) = some false)
    (kTT : PySem.W.kitOne K (.ref CT) (.ref CT) = some true)
    (kTW : PySem.W.kitOne K (.ref CT) (.ref CW) = some false)
    (kTP : PySem.W.kitOne K (.ref CT) (.ref CP) = some true)
    (g1T : PySem.W.findIn K (.ref CT) "__getattribute__" = some (some (.builtin "BaseException.__getattribute__")))
    (g2T : PySem.W.findIn K (.ref CT) "__getattr__" = some none)
    (hcT : PySem.W.isClsIn K CT = true)
    (f1T : PySem.W.findIn K (.ref CT) "__class__" = some (some (.builtin "object.__class__")))
    (omT : PySem.W.mroIn K CT (.type "object") = some true)
    (obT : PySem.W.mroIn K CT (.type "BaseException") = some true)
    (kWS : PySem.W.kitOne K (.ref CW) (.ref CS) = some false)
    (kWD : PySem.W.kitOne K (.ref CW) (.ref CD) = some false)
    (kWT : PySem.W.kitOne K (.ref CW) (.ref CT) = some false)
    (kWW : PySem.W.kitOne K (.ref CW) (.ref CW) = some true)
    (kWP : PySem.W.kitOne K (.ref CW) (.ref CP) = some true)
    (g1W : PySem.W.findIn K (.ref CW) "__getattribute__" = some (some (.builtin "BaseException.__getattribute__")))
    (g2W : PySem.W.findIn K (.ref CW) "__getattr__" = some none)
    (hcW : PySem.W.isClsIn K CW = true)
    (f1W : PySem.W.findIn K (.ref CW) "__class__" = some (some (.builtin "object.__class__")))
    (omW : PySem.W.mroIn K CW (.type "object") = some true)
    (obW : PySem.W.mroIn K CW (.type "BaseException") = some true)
    (f2 : PySem.W.specialIn K (.builtin "object.__class__") "__get__" = some (some (.builtin "getset_descriptor.__get__")))
    (f3 : PySem.W.takesIn K (.builtin "object.__class__") = some true)
    (mSS : PySem.W.mroIn K CS (.ref CS) = some true)
    (mDS : PySem.W.mroIn K CD (.ref CS) = some false)
    (mDD : PySem.W.mroIn K CD (.ref CD) = some true)
    (mTS : PySem.W.mroIn K CT (.ref CS) = some false)
    (mTD : PySem.W.mroIn K CT (.ref CD) = some false)
    (mTT : PySem.W.mroIn K CT (.ref CT) = some true)
    (mWS : PySem.W.mroIn K CW (.ref CS) = some false)
    (mWD : PySem.W.mroIn K CW (.ref CD) = some false)
    (mWT : PySem.W.mroIn K CW (.ref CT) = some false)
    (mWW : PySem.W.mroIn K CW (.ref CW) = some true)
    (xS : PySem.W.excIn K CS [.type "ValueError", .type "Exception", .type "BaseException", .type "object"] "ValueError.__new__" = true)
    (xD : PySem.W.excIn K CD [.type "ZeroDivisionError", .type "ArithmeticError", .type "Exception", .type "BaseException", .type "object"] "ZeroDivisionError.__new__" = true)
    (xW : PySem.W.excIn K CW [.type "ValueError", .type "Exception", .type "BaseException", .type "object"] "ValueError.__new__" = true)
    (a_NT : PySem.W.findIn K (.ref CT) "__init__" = some (some (.ref f_NT)))
    (l_NT : K.lookup f_NT = some ⟨oc_NT, od_NT, .func (PySem.W.fnOf "__init__" "NoTone.__init__" (defArgs sNT) (defBody sNT) (defScope sNT) (.ref dD_NT) kV_NT dc_NT pm_NT an_NT cd_NT ct_NT), sl_NT⟩)
    (c_NT : PySem.W.codeIn K cd_NT "NoTone.__init__" = true)
    (n_xi : excInI K CT [.type "ValueError", .type "Exception", .type "BaseException", .type "object"] "ValueError.__new__" f_NT = true)
    (n_tf : PySem.W.typeIn K (.ref f_NT) = some (.type "function"))
    (n_sa : PySem.W.findIn K (.ref CT) "__setattr__" = some (some (.builtin "object.__setattr__")))
    (n_na : PySem.W.findIn K (.ref CT) "cell" = some none)
    (q_n : ∀ (S : Setting) (u0 : Value), PySem.W.peek K S (bindArgs (PySem.W.fnOf "__init__" "NoTone.__init__" (defArgs sNT) (defBody sNT) (defScope sNT) (.ref dD_NT) kV_NT dc_NT pm_NT an_NT cd_NT ct_NT) ⟨[u0], []⟩) = some [(("self" : Str), u0), (("cell" : Str), .none)])
    (q_b : ∃ t0 t1 : Tok, ∀ (S : Setting) (u0 w0 : Value), PySem.W.peek K S (bindArgs (PySem.W.fnOf "worst" "worst" (defArgs sWo) (defBody sWo) (defScope sWo) .none kV_Wo dc_Wo pm_Wo an_Wo (.ref cW) ct_Wo) ⟨[u0], [(("by" : Str), w0)]⟩) = some [(("weights" : Str), u0), (("by" : Str), w0), (("plus" : Str), .int 0 t0), (("depth" : Str), .int 255 t1)])
    (q_p : ∃ t0 t1 : Tok, ∀ (S : Setting) (u0 w0 : Value), PySem.W.peek K S (bindArgs (PySem.W.fnOf "worst" "worst" (defArgs sWo) (defBody sWo) (defScope sWo) .none kV_Wo dc_Wo pm_Wo an_Wo (.ref cW) ct_Wo) ⟨[u0], [(("plus" : Str), w0)]⟩) = some [(("weights" : Str), u0), (("by" : Str), .int 1 t0), (("plus" : Str), w0), (("depth" : Str), .int 255 t1)])
    (hCd : PySem.W.codeHdIn K cW Pt = true) :
    ∃ fd : FuncData, (∀ (s : Shared) (v : Value), BindsTo s fd ⟨[v], []⟩ [("_law_script", v)]) ∧ ∀ base : Heap, K.In base → base.Ns mainGlobals mg → Bm mg base → FnOk l.prog w K mg base CX0 9 fa fd ["_law_script"] (spLaw K Pt) := by
  have e := hfa.symm.trans (PySem.W.mg_of X G a_L)
  cases e
  have T : Tb mg := ⟨PySem.W.mg_none_of X G z_isinstance, PySem.W.mg_none_of X G z_bool, PySem.W.mg_none_of X G z_int, PySem.W.mg_none_of X G z_str, PySem.W.mg_none_of X G z_tuple, PySem.W.mg_none_of X G z_list, PySem.W.mg_none_of X G z_len, PySem.W.mg_none_of X G z_all, PySem.W.mg_none_of X G z_zip, PySem.W.mg_none_of X G z_repr, PySem.W.mg_none_of X G z_range⟩
  have FHe := fun_mk (st := sHeld) l_He c_He k_He
  have bHe := FHe.binds (ps := ["number", "depth"]) fun _ _ _ _ _ _ us hl => match us, hl with | [_, _], _ => rfl
  have FRd := fun_mk (st := sRounded) l_Rd c_Rd k_Rd
  have bRd := FRd.binds (ps := ["total", "by", "plus", "depth"]) fun _ _ _ _ _ _ us hl => match us, hl with | [_, _, _, _], _ => rfl
  have FW := fun_mk (st := sWhole) l_W c_W k_W
  have bW := FW.binds (ps := ["thing"]) fun _ _ _ _ _ _ us hl => match us, hl with | [_], _ => rfl
  have FB := fun_mk (st := sBetween) l_B c_B k_B
  have bB := FB.binds (ps := ["thing", "low", "high"]) fun _ _ _ _ _ _ us hl => match us, hl with | [_, _, _], _ => rfl
  have FU := fun_mk (st := sTuple) l_U c_U k_U
  have bU := FU.binds (ps := ["thing", "least", "most"]) fun _ _ _ _ _ _ us hl => match us, hl with | [_, _, _], _ => rfl
  have FD := fun_mk (st := sDepth) l_D c_D k_D
  have bD := FD.binds (ps := ["thing"]) fun _ _ _ _ _ _ us hl => match us, hl with | [_], _ => rfl
  have FWt := fun_mk (st := sWeights) l_Wt c_Wt k_Wt
  have bWt := FWt.binds (ps := ["thing", "most", "greatest"]) fun _ _ _ _ _ _ us hl => match us, hl with | [_, _, _], _ => rfl
  have FBy := fun_mk (st := sBy) l_By c_By k_By
  have bBy := FBy.binds (ps := ["thing"]) fun _ _ _ _ _ _ us hl => match us, hl with | [_], _ => rfl
  have FPl := fun_mk (st := sPlus) l_Pl c_Pl k_Pl
  have bPl := FPl.binds (ps := ["thing"]) fun _ _ _ _ _ _ us hl => match us, hl with | [_], _ => rfl
  have FWd := fun_mk (st := sWidth) l_Wd c_Wd k_Wd
  have bWd := FWd.binds (ps := ["weights", "depth"]) fun _ _ _ _ _ _ us hl => match us, hl with | [_, _], _ => rfl
  have FTo := fun_mk (st := sTot) l_To c_To k_To
  have bTo := FTo.binds (ps := ["sums", "weight", "depth"]) fun _ _ _ _ _ _ us hl => match us, hl with | [_, _, _], _ => rfl
  have FWi := fun_mk (st := sWid) l_Wi c_Wi k_Wi
  have bWi := FWi.binds (ps := ["sums", "weight", "depth"]) fun _ _ _ _ _ _ us hl => match us, hl with | [_, _, _], _ => rfl
  have FLa := fun_mk (st := sLay) l_La c_La k_La
  have bLa := FLa.binds (ps := ["weights", "depth"]) fun _ _ _ _ _ _ us hl => match us, hl with | [_, _], _ => rfl
  have FNf := fun_mk (st := sNumF) l_Nf c_Nf k_Nf
  have bNf := FNf.binds (ps := ["weights", "layers", "total"]) fun _ _ _ _ _ _ us hl => match us, hl with | [_, _, _], _ => rfl
  have FCw := fun_mk (st := sCW) l_Cw c_Cw k_Cw
  have bCw := FCw.binds (ps := ["weights", "by", "plus", "depth"]) fun _ _ _ _ _ _ us hl => match us, hl with | [_, _, _, _], _ => rfl
  have FCd := fun_mk (st := sCWd) l_Cd c_Cd k_Cd
  have bCd := FCd.binds (ps := ["weights", "depth", "widest"]) fun _ _ _ _ _ _ us hl => match us, hl with | [_, _, _], _ => rfl
  have FLo := fun_mk (st := sLow) l_Lo c_Lo k_Lo
  have bLo := FLo.binds (ps := ["top", "bottom"]) fun _ _ _ _ _ _ us hl => match us, hl with | [_, _], _ => rfl
  have FEr := fun_mk (st := sErr) l_Er c_Er k_Er
  have bEr := FEr.binds (ps := ["total", "by", "plus", "depth"]) fun _ _ _ _ _ _ us hl => match us, hl with | [_, _, _, _], _ => rfl
  have FWo := fun_mk (st := sWo) l_Wo c_Wo k_Wo
  have FPe := fun_mk (st := sPen) l_Pe c_Pe k_Pe
  have bPe := FPe.binds (ps := ["_law_script"]) fun _ _ _ _ _ _ us hl => match us, hl with | [_], _ => rfl
  have FDr := fun_mk (st := sDraw) l_Dr c_Dr k_Dr
  have bDr := FDr.binds (ps := ["_law_pen_here", "_law_many"]) fun _ _ _ _ _ _ us hl => match us, hl with | [_, _], _ => rfl
  have FLp := fun_mk (st := sLPl) l_Lp c_Lp k_Lp
  have bLp := FLp.binds (ps := ["_law_pen_here", "_law_deep"]) fun _ _ _ _ _ _ us hl => match us, hl with | [_, _], _ => rfl
  have FLh := fun_mk (st := sLHe) l_Lh c_Lh k_Lh
  have bLh := FLh.binds (ps := ["_law_number", "_law_deep"]) fun _ _ _ _ _ _ us hl => match us, hl with | [_, _], _ => rfl
  have FLr := fun_mk (st := sLRo) l_Lr c_Lr k_Lr
  have bLr := FLr.binds (ps := ["_law_total", "_law_under", "_law_extra", "_law_deep"]) fun _ _ _ _ _ _ us hl => match us, hl with | [_, _, _, _], _ => rfl
  have FWe := fun_mk (st := sWei) l_We c_We k_We
  have bWe := FWe.binds (ps := ["_law_pen_here", "_law_limit"]) fun _ _ _ _ _ _ us hl => match us, hl with | [_, _], _ => rfl
  have FLs := fun_mk (st := sLSm) l_Ls c_Ls k_Ls
  have bLs := FLs.binds (ps := ["_law_weights", "_law_deep"]) fun _ _ _ _ _ _ us hl => match us, hl with | [_, _], _ => rfl
  have FLg := fun_mk (st := sLGa) l_Lg c_Lg k_Lg
  have bLg := FLg.binds (ps := ["_law_total", "_law_under", "_law_extra", "_law_deep"]) fun _ _ _ _ _ _ us hl => match us, hl with | [_, _, _, _], _ => rfl
  have FLl := fun_mk (st := sLLo) l_Ll c_Ll k_Ll
  have bLl := FLl.binds (ps := ["_law_top", "_law_under"]) fun _ _ _ _ _ _ us hl => match us, hl with | [_, _], _ => rfl
  have FRi := fun_mk (st := sLRi) l_Ri c_Ri k_Ri
  have bRi := FRi.binds (ps := ["_law_weights", "_law_under", "_law_extra", "_law_deep", "_law_found"]) fun _ _ _ _ _ _ us hl => match us, hl with | [_, _, _, _, _], _ => rfl
  have FRf := fun_mk (st := sLRf) l_Rf c_Rf k_Rf
  have bRf := FRf.binds (ps := ["_law_weights", "_law_under", "_law_extra", "_law_deep"]) fun _ _ _ _ _ _ us hl => match us, hl with | [_, _, _, _], _ => rfl
  have FBw := fun_mk (st := sLBw) l_Bw c_Bw k_Bw
  have bBw := FBw.binds (ps := ["_law_pen_here"]) fun _ _ _ _ _ _ us hl => match us, hl with | [_], _ => rfl
  have FRr := fun_mk (st := sLRr) l_Rr c_Rr k_Rr
  have bRr := FRr.binds (ps := ["_law_pen_here"]) fun _ _ _ _ _ _ us hl => match us, hl with | [_], _ => rfl
  have mHe := PySem.W.mg_of X G a_He
  have mRd := PySem.W.mg_of X G a_Rd
  have mW := PySem.W.mg_of X G a_W
  have mB := PySem.W.mg_of X G a_B
  have mU := PySem.W.mg_of X G a_U
  have mD := PySem.W.mg_of X G a_D
  have mWt := PySem.W.mg_of X G a_Wt
  have mBy := PySem.W.mg_of X G a_By
  have mPl := PySem.W.mg_of X G a_Pl
  have mWd := PySem.W.mg_of X G a_Wd
  have mTo := PySem.W.mg_of X G a_To
  have mWi := PySem.W.mg_of X G a_Wi
  have mLa := PySem.W.mg_of X G a_La
  have mNf := PySem.W.mg_of X G a_Nf
  have mCw := PySem.W.mg_of X G a_Cw
  have mCd := PySem.W.mg_of X G a_Cd
  have mLo := PySem.W.mg_of X G a_Lo
  have mEr := PySem.W.mg_of X G a_Er
  have mWo := PySem.W.mg_of X G a_Wo
  have mPe := PySem.W.mg_of X G a_Pe
  have mDr := PySem.W.mg_of X G a_Dr
  have mLp := PySem.W.mg_of X G a_Lp
  have mLh := PySem.W.mg_of X G a_Lh
  have mLr := PySem.W.mg_of X G a_Lr
  have mWe := PySem.W.mg_of X G a_We
  have mLs := PySem.W.mg_of X G a_Ls
  have mLg := PySem.W.mg_of X G a_Lg
  have mLl := PySem.W.mg_of X G a_Ll
  have mRi := PySem.W.mg_of X G a_Ri
  have mRf := PySem.W.mg_of X G a_Rf
  have mBw := PySem.W.mg_of X G a_Bw
  have mRr := PySem.W.mg_of X G a_Rr
  have FL := fun_mk (st := sLaw) l_L c_L k_L
  obtain ⟨tb0, tb1, qb⟩ := q_b
  obtain ⟨tp0, tp1, qp⟩ := q_p
  have kbWo : KBinds K (PySem.W.fnOf "worst" "worst" (defArgs sWo) (defBody sWo) (defScope sWo) .none kV_Wo dc_Wo pm_Wo an_Wo (.ref cW) ct_Wo) ["weights", "by", "plus", "depth"] ["by", "plus", "depth"] g3 gV3 := {
    to := fun s us ws X hl => by
      match ws, hl with
      | [w0, w1, w2], hl =>
        obtain ⟨u0, rfl⟩ := us1 (len_of hl)
        exact .of_eq rfl
      | [], hl => exact absurd hl (Nat.ne_of_beq_eq_false rfl)
      | [_], hl => exact absurd hl (Nat.ne_of_beq_eq_false rfl)
      | [_, _], hl => exact absurd hl (Nat.ne_of_beq_eq_false rfl)
      | _ :: _ :: _ :: _ :: _, hl => exact absurd hl (Nat.ne_of_beq_eq_false rfl)
    rel := fun {vs us zs ws} r rz => by
      cases rz with
      | nil => exact .nil
      | cons h0 t =>
        cases t with
        | nil => exact .nil
        | cons h1 t =>
          cases t with
          | nil => exact .nil
          | cons h2 t =>
            cases t with
            | nil => exact L2.Vals.append r (.cons h0 (.cons h1 (.cons h2 .nil)))
            | cons hz t => exact .nil
  }
  have kbB : KBinds K (PySem.W.fnOf "worst" "worst" (defArgs sWo) (defBody sWo) (defScope sWo) .none kV_Wo dc_Wo pm_Wo an_Wo (.ref cW) ct_Wo) ["weights", "by", "plus", "depth"] ["by"] (gB tb0 tb1) gVB := {
    to := fun s us ws X hl => by
      match ws, hl with
      | [w0], hl =>
        obtain ⟨u0, rfl⟩ := us1 (len_of hl)
        exact PySem.W.kp_binds X fun S => qb S u0 w0
      | [], hl => exact absurd hl (Nat.ne_of_beq_eq_false rfl)
      | _ :: _ :: _, hl => exact absurd hl (Nat.ne_of_beq_eq_false rfl)
    rel := fun {vs us zs ws} r rz => by
      cases rz with
      | nil => exact .nil
      | cons h0 t =>
        cases t with
        | nil => exact L2.Vals.append r (.cons h0 (.cons ⟨_, rfl⟩ (.cons ⟨_, rfl⟩ .nil)))
        | cons hz t => exact .nil
  }
  have kbP : KBinds K (PySem.W.fnOf "worst" "worst" (defArgs sWo) (defBody sWo) (defScope sWo) .none kV_Wo dc_Wo pm_Wo an_Wo (.ref cW) ct_Wo) ["weights", "by", "plus", "depth"] ["plus"] (gP tp0 tp1) gVP := {
    to := fun s us ws X hl => by
      match ws, hl with
      | [w0], hl =>
        obtain ⟨u0, rfl⟩ := us1 (len_of hl)
        exact PySem.W.kp_binds X fun S => qp S u0 w0
      | [], hl => exact absurd hl (Nat.ne_of_beq_eq_false rfl)
      | _ :: _ :: _, hl => exact absurd hl (Nat.ne_of_beq_eq_false rfl)
    rel := fun {vs us zs ws} r rz => by
      cases rz with
      | nil => exact .nil
      | cons h0 t =>
        cases t with
        | nil => exact L2.Vals.append r (.cons ⟨_, rfl⟩ (.cons h0 (.cons ⟨_, rfl⟩ .nil)))
        | cons hz t => exact .nil
  }
  have bNT : Binds K (PySem.W.fnOf "__init__" "NoTone.__init__" (defArgs sNT) (defBody sNT) (defScope sNT) (.ref dD_NT) kV_NT dc_NT pm_NT an_NT cd_NT ct_NT) ["self", "cell"] [.none] := fun s us X hl => by
    obtain ⟨u0, rfl⟩ := us1 (len_of hl)
    exact PySem.W.kp_binds X fun S => q_n S u0
  refine ⟨PySem.W.fnOf "law" "law" (defArgs sLaw) (defBody sLaw) (defScope sLaw) .none kV_L dc_L pm_L an_L cd_L ct_L, fun s v => .of_eq rfl, fun base hKb _ hBm => ?_⟩
  have hmin := PySem.W.mg_none_of X G z_min
  have hmax := PySem.W.mg_none_of X G z_max
  have habs := PySem.W.mg_none_of X G z_abs
  have hsum := PySem.W.mg_none_of X G z_sum
  have TC : Tc mg := ⟨⟨_, PySem.W.mg_of X G v_DEEPEST, ⟨_, rfl⟩⟩, ⟨_, PySem.W.mg_of X G v_GREATEST_WEIGHT, ⟨_, rfl⟩⟩, ⟨_, PySem.W.mg_of X G v_GREATEST_BY, ⟨_, rfl⟩⟩, ⟨_, PySem.W.mg_of X G v_MOST_PLACES, ⟨_, rfl⟩⟩, ⟨_, PySem.W.mg_of X G v_WIDEST, ⟨_, rfl⟩⟩⟩
  have CLS : Classes K [CS, CD, CT, CW] := fun D h => by
    rcases List.mem_cons.mp h with rfl | h
    · exact ⟨hcS, obS⟩
    rcases List.mem_cons.mp h with rfl | h
    · exact ⟨hcD, obD⟩
    rcases List.mem_cons.mp h with rfl | h
    · exact ⟨hcT, obT⟩
    rcases List.mem_cons.mp h with rfl | h
    · exact ⟨hcW, obW⟩
    exact nomatch h
  have TE : Te K CS CD CT CW CP := ⟨⟨⟨_, _, o_S, rfl, rfl⟩⟩, ⟨⟨_, _, o_D, rfl, rfl⟩⟩, ⟨⟨_, _, o_T, rfl, rfl⟩⟩, ⟨⟨_, _, o_W, rfl, rfl⟩⟩, ⟨⟨_, _, o_P, rfl, rfl⟩⟩, ⟨g1S, g2S, hcS, f1S, f2, f3, omS, obS⟩, ⟨g1D, g2D, hcD, f1D, f2, f3, omD, obD⟩, ⟨g1T, g2T, hcT, f1T, f2, f3, omT, obT⟩, ⟨g1W, g2W, hcW, f1W, f2, f3, omW, obW⟩, kSS, kSD, kST, kSW, kSP, kDS, kDD, kDT, kDW, kDP, kTS, kTD, kTT, kTW, kTP, kWS, kWD, kWT, kWW, kWP, CLS, mSS, mDS, mDD, mTS, mTD, mTT, mWS, mWD, mWT, mWW⟩
  have hS := PySem.W.mg_of X G n_S
  have hD := PySem.W.mg_of X G n_D
  have hT := PySem.W.mg_of X G n_T
  have hW := PySem.W.mg_of X G n_W
  have hP := PySem.W.mg_of X G n_P
  have XS : XSet K CT "cell" := excI_set n_xi PySem.F.store_ValueError.passes (by decide) n_sa n_na
  have HC : PySem.W.CodeHd base cW Pt := PySem.W.codeHd_of_K hKb hCd
  have GNT := ok_ntD (P := l.prog) (w := w) (mg := mg) (base := base) (C := CT) l_NT c_NT
  have GHe := ok_held (P := l.prog) (w := w) (mg := mg) (base := base) FHe hmin hmax
  have GRd := ok_rounded FRd GHe bHe k_He mHe
  have GW := ok_whole (P := l.prog) (w := w) (mg := mg) (base := base) FW T
  have GB := ok_betG FB GW bW k_W mW
  have GU := ok_tupG (P := l.prog) (w := w) (mg := mg) (base := base) FU T
  have GD := ok_depthG FD TC GB bB k_B mB
  have GWt := ok_wts FWt T GU bU k_U mU GB bB k_B mB
  have GBy := ok_byG FBy TC GB bB k_B mB
  have GPl := ok_plusG FPl TC GB bB k_B mB
  have GWd := ok_width (P := l.prog) (w := w) (mg := mg) (base := base) FWd habs hsum
  have GTo := ok_tot (P := l.prog) (w := w) (mg := mg) (base := base) FTo T hmin hmax
  have GWi := ok_wid FWi GTo bTo k_To mTo
  have GLa := ok_lay FLa GWi bWi k_Wi mWi
  have GNf := ok_numF (P := l.prog) (w := w) (mg := mg) (base := base) FNf T
  have GLo := ok_low (P := l.prog) (w := w) (mg := mg) (base := base) FLo
  have GEr := ok_err FEr habs GRd bRd k_Rd mRd GHe bHe k_He mHe
  have GCw := ok_cw FCw TC GWt bWt k_Wt mWt GBy bBy k_By mBy GPl bPl k_Pl mPl GD bD k_D mD PySem.F.excBase_ValueError xS hS PySem.F.excBase_ZeroDivisionError xD hD GNT bNT PySem.F.excBase_ValueError n_xi n_tf hT XS
  have GCd := ok_cwd FCd GWd bWd k_Wd mWd PySem.F.excBase_ValueError xW hW
  have GWo1 := ok_wo l_Wo c_Wo HC hBm T TC hmax GCw bCw k_Cw mCw GCd bCd k_Cd mCd GLa bLa k_La mLa GEr bEr k_Er mEr GLo bLo k_Lo mLo GNf bNf k_Nf mNf
  have GWo2 := ok_woE l_Wo c_Wo TC GCw bCw k_Cw mCw GCd bCd k_Cd mCd
  have GWo := FnOk.or GWo1 GWo2
  have GPe := ok_pen (P := l.prog) (w := w) (mg := mg) (base := base) FPe T
  have GDr := ok_draw (P := l.prog) (w := w) (mg := mg) (base := base) FDr T
  have GLp := ok_lpl FLp GDr bDr k_Dr mDr
  have GLh := ok_lhe (P := l.prog) (w := w) (mg := mg) (base := base) FLh
  have GLr := ok_lro FLr GLh bLh k_Lh mLh
  have GWe := ok_wei FWe T hmin GDr bDr k_Dr mDr GLp bLp k_Lp mLp
  have GLs := ok_lsm (P := l.prog) (w := w) (mg := mg) (base := base) FLs T
  have GLg := ok_lga FLg habs GLr bLr k_Lr mLr GLh bLh k_Lh mLh
  have GLl := ok_llo (P := l.prog) (w := w) (mg := mg) (base := base) FLl
  have GRi := ok_lri FRi T hmax hsum GLs bLs k_Ls mLs GLg bLg k_Lg mLg GLl bLl k_Ll mLl
  have GRf := ok_lrf FRf T TE GWo kbWo k_Wo mWo hS hD hT hW hP
  have GBw := ok_lbw FBw T GDr bDr k_Dr mDr
  have GRr := ok_lrr FRr GDr bDr k_Dr mDr GBw bBw k_Bw mBw GRf bRf k_Rf mRf
  exact ok_law FL T GPe bPe k_Pe mPe GDr bDr k_Dr mDr GWe bWe k_We mWe GWo kbWo kbB kbP k_Wo mWo GRi bRi k_Ri mRi GRr bRr k_Rr mRr
theorem walk {l : PySem.W.OpenLaw} {q : Program} {loose : List Str} {XP : (Str → Option Value) → Heap → Prop} {YP : World → Heap → Prop} {d : DefRec} {K : Params → PySem.W.Frag} {c Pt : Addr} (hn : l.most = some 63) (hdf : d.params.defaults = [])
    (hY : ∀ (w : World) (h : Heap), YP w h → (K w.params).In h ∧ ∀ P ∈ [Pt], h.get? P = some (PySem.W.tabObj #[])) (hC : ∀ w : World, PySem.W.codeHdIn (K w.params) c Pt = true) (hnt : ∀ w : World, PySem.W.noTabs (K w.params) = true)
    (F : ∀ (w : World) (mg : Str → Option Value) (fa : Addr) (h : Heap), (K w.params).In h → h.Ns mainGlobals mg → mg d.name = some (.ref fa) →
      ∃ fd : FuncData, (∀ (s : Shared) (u : Value), BindsTo s fd ⟨[u], []⟩ [("_law_script", u)]) ∧ ∀ base : Heap, (K w.params).In base → base.Ns mainGlobals mg → Bm mg base → FnOk l.prog w (K w.params) mg base CX0 9 fa fd ["_law_script"] (spLaw (K w.params) Pt)) :
    PySem.W.WalkO q loose XP YP l.row.toRowW d [] (fun f vs => PySem.call f vs) :=
  L2.walk_ofT (n := 63) (k := 9) (x := "_law_script") (CX := fun _ => CX0) (sp := fun w => spLaw (K w.params) Pt) (ts := [(c, Pt)]) hn (by decide) hdf ⟨rfl, by decide, by decide, rfl⟩ hY (fun w q hq => by rw [List.mem_singleton.mp hq]; exact hC w) hnt F
    (fun w H a ns hl _ hT hS => ⟨a, ns, rfl, hS, hl, hT (c, Pt) (List.mem_singleton.mpr rfl), fun _ => rfl⟩) fun _ _ _ _ _ z => z
end Mk
open PySem PySem.W PyProof.Rows
set_option maxRecDepth 100000 in
set_option maxHeartbeats 0 in
theorem PySem.Challenge.cw_pixelstages_k43_the_greatest_rounding_holds : PySem.Challenge.rw_pixelstages_k43_the_greatest_rounding.Holds := by
  w_on; o_law; k_head; (case hw => w_witness2)
  k_fill
  refine' Mk.walk (l := PySem.Challenge.rw_pixelstages_k43_the_greatest_rounding) (c := 213) rfl rfl (fun w h Y => ⟨km_in_of Y, km_tabs_of Y⟩) ?hCode ?hTab ?F
  case F =>
    intro w mg fa h KX G hmg
    refine' Mk.all_mk KX G hmg ?a_He ?l_He ?c_He ?k_He ?a_Rd ?l_Rd ?c_Rd ?k_Rd ?a_W ?l_W ?c_W ?k_W ?a_B ?l_B ?c_B ?k_B ?a_U ?l_U ?c_U ?k_U ?a_D ?l_D ?c_D ?k_D ?a_Wt ?l_Wt ?c_Wt ?k_Wt ?a_By ?l_By ?c_By ?k_By ?a_Pl ?l_Pl ?c_Pl ?k_Pl ?a_Wd ?l_Wd ?c_Wd ?k_Wd ?a_To ?l_To ?c_To ?k_To ?a_Wi ?l_Wi ?c_Wi ?k_Wi ?a_La ?l_La ?c_La ?k_La ?a_Nf ?l_Nf ?c_Nf ?k_Nf ?a_Cw ?l_Cw ?c_Cw ?k_Cw ?a_Cd ?l_Cd ?c_Cd ?k_Cd ?a_Lo ?l_Lo ?c_Lo ?k_Lo ?a_Er ?l_Er ?c_Er ?k_Er ?a_Wo ?l_Wo ?c_Wo ?k_Wo ?a_Pe ?l_Pe ?c_Pe ?k_Pe ?a_Dr ?l_Dr ?c_Dr ?k_Dr ?a_Lp ?l_Lp ?c_Lp ?k_Lp ?a_Lh ?l_Lh ?c_Lh ?k_Lh ?a_Lr ?l_Lr ?c_Lr ?k_Lr ?a_We ?l_We ?c_We ?k_We ?a_Ls ?l_Ls ?c_Ls ?k_Ls ?a_Lg ?l_Lg ?c_Lg ?k_Lg ?a_Ll ?l_Ll ?c_Ll ?k_Ll ?a_Ri ?l_Ri ?c_Ri ?k_Ri ?a_Rf ?l_Rf ?c_Rf ?k_Rf ?a_Bw ?l_Bw ?c_Bw ?k_Bw ?a_Rr ?l_Rr ?c_Rr ?k_Rr ?a_L ?l_L ?c_L ?k_L ?v_DEEPEST ?v_GREATEST_WEIGHT ?v_GREATEST_BY ?v_MOST_PLACES ?v_WIDEST ?z_isinstance ?z_bool ?z_int ?z_str ?z_tuple ?z_list ?z_len ?z_all ?z_zip ?z_repr ?z_range ?z_min ?z_max ?z_abs ?z_sum ?n_S ?n_D ?n_T ?n_W ?n_P ?o_S ?o_D ?o_T ?o_W ?o_P ?kSS ?kSD ?kST ?kSW ?kSP ?g1S ?g2S ?hcS ?f1S ?omS ?obS ?kDS ?kDD ?kDT ?kDW ?kDP ?g1D ?g2D ?hcD ?f1D ?omD ?obD ?kTS ?kTD ?kTT ?kTW ?kTP ?g1T ?g2T ?hcT ?f1T ?omT ?obT ?kWS ?kWD ?kWT ?kWW ?kWP ?g1W ?g2W ?hcW ?f1W ?omW ?obW ?f2 ?f3 ?mSS ?mDS ?mDD ?mTS ?mTD ?mTT ?mWS ?mWD ?mWT ?mWW ?xS ?xD ?xW ?a_NT ?l_NT ?c_NT ?n_xi ?n_tf ?n_sa ?n_na ?q_n ?q_b ?q_p ?hCd
    (case a_He => k_is)
    (case l_He => k_is)
    (case c_He => k_is)
    (case k_He => k_is)
    (case a_Rd => k_is)
    (case l_Rd => k_is)
    (case c_Rd => k_is)
    (case k_Rd => k_is)
    (case a_W => k_is)
    (case l_W => k_is)
    (case c_W => k_is)
    (case k_W => k_is)
    (case a_B => k_is)
    (case l_B => k_is)
    (case c_B => k_is)
    (case k_B => k_is)
    (case a_U => k_is)
    (case l_U => k_is)
    (case c_U => k_is)
    (case k_U => k_is)
    (case a_D => k_is)
    (case l_D => k_is)
    (case c_D => k_is)
    (case k_D => k_is)
    (case a_Wt => k_is)
    (case l_Wt => k_is)
    (case c_Wt => k_is)
    (case k_Wt => k_is)
    (case a_By => k_is)
    (case l_By => k_is)
    (case c_By => k_is)
    (case k_By => k_is)
    (case a_Pl => k_is)
    (case l_Pl => k_is)
    (case c_Pl => k_is)
    (case k_Pl => k_is)
    (case a_Wd => k_is)
    (case l_Wd => k_is)
    (case c_Wd => k_is)
    (case k_Wd => k_is)
    (case a_To => k_is)
    (case l_To => k_is)
    (case c_To => k_is)
    (case k_To => k_is)
    (case a_Wi => k_is)
    (case l_Wi => k_is)
    (case c_Wi => k_is)
    (case k_Wi => k_is)
    (case a_La => k_is)
    (case l_La => k_is)
    (case c_La => k_is)
    (case k_La => k_is)
    (case a_Nf => k_is)
    (case l_Nf => k_is)
    (case c_Nf => k_is)
    (case k_Nf => k_is)
    (case a_Cw => k_is)
    (case l_Cw => k_is)
    (case c_Cw => k_is)
    (case k_Cw => k_is)
    (case a_Cd => k_is)
    (case l_Cd => k_is)
    (case c_Cd => k_is)
    (case k_Cd => k_is)
    (case a_Lo => k_is)
    (case l_Lo => k_is)
    (case c_Lo => k_is)
    (case k_Lo => k_is)
    (case a_Er => k_is)
    (case l_Er => k_is)
    (case c_Er => k_is)
    (case k_Er => k_is)
    (case a_Wo => k_is)
    (case l_Wo => k_is)
    (case c_Wo => k_is)
    (case k_Wo => k_is)
    (case a_Pe => k_is)
    (case l_Pe => k_is)
    (case c_Pe => k_is)
    (case k_Pe => k_is)
    (case a_Dr => k_is)
    (case l_Dr => k_is)
    (case c_Dr => k_is)
    (case k_Dr => k_is)
    (case a_Lp => k_is)
    (case l_Lp => k_is)
    (case c_Lp => k_is)
    (case k_Lp => k_is)
    (case a_Lh => k_is)
    (case l_Lh => k_is)
    (case c_Lh => k_is)
    (case k_Lh => k_is)
    (case a_Lr => k_is)
    (case l_Lr => k_is)
    (case c_Lr => k_is)
    (case k_Lr => k_is)
    (case a_We => k_is)
    (case l_We => k_is)
    (case c_We => k_is)
    (case k_We => k_is)
    (case a_Ls => k_is)
    (case l_Ls => k_is)
    (case c_Ls => k_is)
    (case k_Ls => k_is)
    (case a_Lg => k_is)
    (case l_Lg => k_is)
    (case c_Lg => k_is)
    (case k_Lg => k_is)
    (case a_Ll => k_is)
    (case l_Ll => k_is)
    (case c_Ll => k_is)
    (case k_Ll => k_is)
    (case a_Ri => k_is)
    (case l_Ri => k_is)
    (case c_Ri => k_is)
    (case k_Ri => k_is)
    (case a_Rf => k_is)
    (case l_Rf => k_is)
    (case c_Rf => k_is)
    (case k_Rf => k_is)
    (case a_Bw => k_is)
    (case l_Bw => k_is)
    (case c_Bw => k_is)
    (case k_Bw => k_is)
    (case a_Rr => k_is)
    (case l_Rr => k_is)
    (case c_Rr => k_is)
    (case k_Rr => k_is)
    (case a_L => k_is)
    (case l_L => k_is)
    (case c_L => k_is)
    (case k_L => k_is)
    (case v_DEEPEST => k_is)
    (case v_GREATEST_WEIGHT => k_is)
    (case v_GREATEST_BY => k_is)
    (case v_MOST_PLACES => k_is)
    (case v_WIDEST => k_is)
    (case z_isinstance => k_is)
    (case z_bool => k_is)
    (case z_int => k_is)
    (case z_str => k_is)
    (case z_tuple => k_is)
    (case z_list => k_is)
    (case z_len => k_is)
    (case z_all => k_is)
    (case z_zip => k_is)
    (case z_repr => k_is)
    (case z_range => k_is)
    (case z_min => k_is)
    (case z_max => k_is)
    (case z_abs => k_is)
    (case z_sum => k_is)
    (case n_S => k_is)
    (case n_D => k_is)
    (case n_T => k_is)
    (case n_W => k_is)
    (case n_P => k_is)
    (case o_S => k_is)
    (case o_D => k_is)
    (case o_T => k_is)
    (case o_W => k_is)
    (case o_P => k_is)
    (case kSS => kit_is)
    (case kSD => kit_is)
    (case kST => kit_is)
    (case kSW => kit_is)
    (case kSP => kit_is)
    (case g1S => k_is)
    (case g2S => k_is)
    (case hcS => k_is)
    (case f1S => k_is)
    (case omS => k_is)
    (case obS => k_is)
    (case kDS => kit_is)
    (case kDD => kit_is)
    (case kDT => kit_is)
    (case kDW => kit_is)
    (case kDP => kit_is)
    (case g1D => k_is)
    (case g2D => k_is)
    (case hcD => k_is)
    (case f1D => k_is)
    (case omD => k_is)
    (case obD => k_is)
    (case kTS => kit_is)
    (case kTD => kit_is)
    (case kTT => kit_is)
    (case kTW => kit_is)
    (case kTP => kit_is)
    (case g1T => k_is)
    (case g2T => k_is)
    (case hcT => k_is)
    (case f1T => k_is)
    (case omT => k_is)
    (case obT => k_is)
    (case kWS => kit_is)
    (case kWD => kit_is)
    (case kWT => kit_is)
    (case kWW => kit_is)
    (case kWP => kit_is)
    (case g1W => k_is)
    (case g2W => k_is)
    (case hcW => k_is)
    (case f1W => k_is)
    (case omW => k_is)
    (case obW => k_is)
    (case f2 => k_is)
    (case f3 => k_is)
    (case mSS => k_is)
    (case mDS => k_is)
    (case mDD => k_is)
    (case mTS => k_is)
    (case mTD => k_is)
    (case mTT => k_is)
    (case mWS => k_is)
    (case mWD => k_is)
    (case mWT => k_is)
    (case mWW => k_is)
    (case xS => k_exc)
    (case xD => k_exc)
    (case xW => k_exc)
    (case a_NT => k_is)
    (case l_NT => k_is)
    (case c_NT => k_is)
    (case n_xi => kernel_rfl)
    (case n_tf => k_is)
    (case n_sa => k_is)
    (case n_na => k_is)
    (case q_n => exact fun _ _ => rfl)
    (case q_b => exact ⟨_, _, fun _ _ _ => rfl⟩)
    (case q_p => exact ⟨_, _, fun _ _ _ => rfl⟩)
    (case hCd => kernel_rfl)
  case hCode => intro w; kernel_rfl
  case hTab => intro w; kernel_rfl
