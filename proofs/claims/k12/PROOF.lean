import PyProof.Rows.All
import Wide.All
import OpenK.AllK
import Wide.FinOn
import Lean
import PyProof.EqAt
import PyProof.EqKinds
import PyProof.TupleCall
import KE.KLam
import KE.KSortKey
import KE.KListLetter
import PyProof.ListRange
import KE.KNest
import PySem.Challenge.RW_playedall_k12_whole_fewest
-- CHANGE: your row's module here, as the last of these rows
set_option Elab.async false
set_option linter.all false
set_option maxRecDepth 100000
/-! THE HAND LAYER, for ints, bools, texts, own classes, LISTS and tuples (index, slices, in, append, pop ..), calls, loops. Paste it whole ahead of your own text; what your proof does not reach may be deleted. -/
namespace L2
open PySem PySem.Spec PyProof.Rows

/-- a key: an int or a str -/
abbrev Key := Sum Int Str
def keyIs : Key → Value → Bool
  | .inl k, v => Value.isInt k v
  | .inr x, v => Value.isStrOf x v
def keyH (w : World) : Key → Int
  | .inl k => hashInt k
  | .inr x => hashStr w x
theorem keyIs_shape : ∀ {k : Key} {v : Value}, keyIs k v = true → (∃ i t, k = Sum.inl i ∧ v = Value.int i t) ∨ (∃ x t, k = Sum.inr x ∧ v = Value.str x t)
  | .inl i, v, h => by
    obtain ⟨t, e⟩ := Value.isInt_shape (k := i) (v := v) h
    exact .inl ⟨i, t, rfl, e⟩
  | .inr x, v, h => by
    obtain ⟨t, e⟩ := Value.isStrOf_shape (x := x) (v := v) h
    exact .inr ⟨x, t, rfl, e⟩
theorem keyIs_int (i : Int) (t : Tok) : keyIs (.inl i) (.int i t) = true := by simp [keyIs, Value.isInt]
theorem keyIs_str (x : Str) (t : Tok) : keyIs (.inr x) (.str x t) = true := by simp [keyIs, Value.isStrOf]
theorem key_ll (a b : Int) : decide ((Sum.inl a : Key) = Sum.inl b) = (a == b) := by
  by_cases e : a = b
  · subst e; simp
  · have h : ¬ (Sum.inl a : Key) = Sum.inl b := fun q => e (Sum.inl.inj q)
    rw [decide_eq_false h]
    exact (beq_eq_false_iff_ne.mpr e).symm
theorem key_rr (a b : Str) : decide ((Sum.inr a : Key) = Sum.inr b) = decide (a = b) := by
  by_cases e : a = b
  · subst e; simp
  · have h : ¬ (Sum.inr a : Key) = Sum.inr b := fun q => e (Sum.inr.inj q)
    rw [decide_eq_false h, decide_eq_false e]
theorem key_lr (a : Int) (b : Str) : decide ((Sum.inl a : Key) = Sum.inr b) = false := decide_eq_false (fun q => nomatch q)
theorem key_rl (a : Str) (b : Int) : decide ((Sum.inr a : Key) = Sum.inl b) = false := decide_eq_false (fun q => nomatch q)

def mixKind (prog : Program) (w : World) : PySem.KeyKind prog w Key where
  is := keyIs
  hash := keyH w
  inj := fun v a b ha hb => by
    rcases keyIs_shape ha with ⟨i, t, rfl, rfl⟩ | ⟨x, t, rfl, rfl⟩
    · rcases keyIs_shape hb with ⟨j, u, rfl, e⟩ | ⟨y, u, rfl, e⟩
      · injection e with e1 _; rw [e1]
      · exact nomatch e
    · rcases keyIs_shape hb with ⟨j, u, rfl, e⟩ | ⟨y, u, rfl, e⟩
      · exact nomatch e
      · injection e with e1 _; rw [e1]
  byValue := fun k v h => by
    rcases keyIs_shape h with ⟨i, t, rfl, rfl⟩ | ⟨x, t, rfl, rfl⟩ <;> rfl
  pyHash := fun hv h => by
    rcases keyIs_shape hv with ⟨i, t, rfl, rfl⟩ | ⟨x, t, rfl, rfl⟩
    · exact wpAny_pyHash_int h
    · exact wpAny_pyHash_str h
  eqBool := fun hu hv h => by
    rcases keyIs_shape hu with ⟨i, t, rfl, rfl⟩ | ⟨x, t, rfl, rfl⟩
    · rcases keyIs_shape hv with ⟨j, u, rfl, rfl⟩ | ⟨y, u, rfl, rfl⟩
      · rw [key_ll] at h; exact wpAny_eqBool_int h
      · rw [key_lr] at h; exact SeqAt.EqAt.int_str i t y u _ _ _ _ h
    · rcases keyIs_shape hv with ⟨j, u, rfl, rfl⟩ | ⟨y, u, rfl, rfl⟩
      · rw [key_rl] at h; exact SeqAt.EqAt.str_int x t j u _ _ _ _ h
      · rw [key_rr] at h; exact wpAny_eqBool_str h
  «strs» := fun k x t v h => by
    rcases keyIs_shape h with ⟨i, u, rfl, e⟩ | ⟨y, u, rfl, e⟩
    · exact nomatch e
    · injection e with e1 _
      subst e1
      cases v <;> rfl

theorem mixKind_is (prog : Program) (w : World) (k : Key) (v : Value) : (mixKind prog w).is k v = keyIs k v := rfl
theorem mixKind_int (prog : Program) (w : World) (i : Int) (t : Tok) : (mixKind prog w).is (.inl i) (.int i t) = true := keyIs_int i t
theorem mixKind_str (prog : Program) (w : World) (x : Str) (t : Tok) : (mixKind prog w).is (.inr x) (.str x t) = true := keyIs_str x t
end L2

namespace L2
open PySem PySem.Spec PyProof.Rows

/-- a value, without the heap -/
inductive V where
  | non | bl (b : Bool) | int (i : Int) | str (x : Str) | byt (b : Array UInt8) | flt (b : UInt64) | ref (a : Addr) | ty (n : String)
  deriving DecidableEq

def RelV : V → Value → Prop
  | .non, u => u = Value.none
  | .bl b, u => u = Value.bool b
  | .int i, u => ∃ t, u = Value.int i t
  | .str x, u => ∃ t, u = Value.str x t
  | .byt b, u => ∃ t, u = Value.bytes b t
  | .flt b, u => ∃ t, u = Value.float b t
  | .ref a, u => u = Value.ref a
  | .ty n, u => u = Value.type n

abbrev Vals : List V → List Value → Prop := Paired RelV
theorem Vals.length {xs : List V} {us : List Value} (r : Vals xs us) : xs.length = us.length := Paired.length r
theorem Vals.get : ∀ {xs : List V} {us : List Value} {i : Nat} {x : V}, Vals xs us → xs[i]? = some x → ∃ u, us[i]? = some u ∧ RelV x u
  | _, _, _, _, .nil, e => by simp at e
  | _, _, 0, _, .cons r _, e => by simp at e; subst e; exact ⟨_, rfl, r⟩
  | _, _, i + 1, x, .cons _ t, e => by
    obtain ⟨u, h1, h2⟩ := Vals.get (i := i) (x := x) t (by simpa using e)
    exact ⟨u, by simpa using h1, h2⟩
theorem Vals.set {x : V} {u : Value} (r : RelV x u) : ∀ {xs : List V} {us : List Value} (i : Nat), Vals xs us → Vals (xs.set i x) (us.set i u)
  | _, _, _, .nil => .nil
  | _, _, 0, .cons _ t => .cons r t
  | _, _, i + 1, .cons q t => .cons q (Vals.set r i t)
theorem Vals.append : ∀ {xs ys : List V} {us ws : List Value}, Vals xs us → Vals ys ws → Vals (xs ++ ys) (us ++ ws)
  | _, _, _, _, .nil, s => s
  | _, _, _, _, .cons r t, s => .cons r (Vals.append t s)
theorem Vals.take : ∀ {xs : List V} {us : List Value} (n : Nat), Vals xs us → Vals (xs.take n) (us.take n)
  | _, _, 0, _ => .nil
  | _, _, _ + 1, .nil => .nil
  | _, _, n + 1, .cons r t => .cons r (Vals.take n t)
theorem Vals.drop : ∀ {xs : List V} {us : List Value} (n : Nat), Vals xs us → Vals (xs.drop n) (us.drop n)
  | _, _, 0, r => r
  | _, _, _ + 1, .nil => .nil
  | _, _, n + 1, .cons _ t => Vals.drop n t
theorem Vals.none_of : ∀ {xs : List V} {us : List Value} {i : Nat}, Vals xs us → xs[i]? = none → us[i]? = none := fun {xs us i} r e => by
  have h1 := r.length
  have h2 : xs.length ≤ i := List.getElem?_eq_none_iff.mp e
  exact List.getElem?_eq_none_iff.mpr (by omega)

def RelO : Option V → Option Value → Prop
  | some v, some u => RelV v u
  | none, none => True
  | _, _ => False
def KV {κ : Type} : List (κ × V) → List (κ × Value) → Prop := Paired fun (p : κ × V) (q : κ × Value) => p.1 = q.1 ∧ RelV p.2 q.2

/-- a key of a dict (00_mix): an int or a text -/
def kV : Key → V
  | .inl i => .int i
  | .inr x => .str x

/-- what stands at a tracked address -/
inductive HO where
  /-- a list -/
  | lst (xs : List V)
  /-- a tuple (never changes) -/
  | tup (xs : List V)
  /-- a dict whose keys are ints and texts; one whose keys are tuples of ints and texts (the empty one is both) -/
  | dK (kvs : List (Key × V)) | dT (kvs : List (List Key × V))
  /-- a set of ints: its members, its size -/
  | set (S : Int → Bool) (n : Nat)
  /-- an instance of the class at C, its dict at dx, its attributes -/
  | ins (C dx : Addr) (fs : List (Str × V))
  /-- the dict of the instance at x -/
  | own (x : Addr)
  /-- the dict of an exception -/
  | xd (fs : List (Str × V))
  /-- a bound method, f of x -/
  | met (f x : Addr)
  /-- a range object lo, lo + 1, .. below hi -/
  | rng (lo hi : Int)
  /-- a thing that is known to the object (the script; a dict while a loop walks it): read, never written while it is so -/
  | frz (o : Obj) (u : HO)
  /-- a code object's table -/
  | tbl (ps : Array Value)
  /-- any other thing, by what is true of its one object (a def of one's own: SetO a S n := HO.ext fun h => ..) -/
  | ext (φ : Heap → Prop)

abbrev Hp := Addr → Option HO
def upd (H : Hp) (a : Addr) (o : HO) : Hp := fun b => if b = a then some o else H b
theorem upd_same {H : Hp} {a : Addr} {o : HO} : upd H a o a = some o := by unfold upd; rw [if_pos rfl]
theorem upd_ne {H : Hp} {a b : Addr} {o : HO} (h : b ≠ a) : upd H a o b = H b := by unfold upd; rw [if_neg h]
theorem upd_upd {H : Hp} {a : Addr} {o u : HO} : upd (upd H a o) a u = upd H a u := by
  funext b; unfold upd; split <;> rfl
/-- two objects of different content stand apart -/
theorem ne_of {H : Hp} {a b : Addr} {o u : HO} (h : H a = some o) (h' : H b = some u) (d : o ≠ u) : a ≠ b := by
  intro e; subst e; rw [h] at h'; exact d (Option.some.inj h')
theorem ne_of_none {H : Hp} {a b : Addr} {o : HO} (h : H a = some o) (h' : H b = none) : a ≠ b := by
  intro e; subst e; rw [h] at h'; cases h'

section
variable (P : Program) (w : World)
def ObjOk (H : Hp) (h : Heap) (a : Addr) : HO → Prop
  | .lst xs => xs.length ≤ sizeLine ∧ ∃ (its : List Value) (n : Nat), Vals xs its ∧ h.get? a = some { cls := .type "list", data := .seq its.toArray n }
  | .tup xs => xs.length ≤ sizeLine ∧ ∃ its : List Value, Vals xs its ∧ IsTup h a its.toArray
  | .dK kvs => kvs.length ≤ sizeLine ∧ (a == sysModules) = false ∧ ∃ vs, KV kvs vs ∧ h.DictOf (mixKind P w) a vs
  | .dT kvs => kvs.length ≤ sizeLine ∧ (a == sysModules) = false ∧ ∃ xs : List (List Key × Addr × Value),
      Paired (fun (p : List Key × V) (q : List Key × Addr × Value) => p.1 = q.1 ∧ H q.2.1 = some (.tup (p.1.map kV)) ∧ RelV p.2 q.2.2) kvs xs ∧
      ∃ o es ep, h.get? a = some o ∧ o.ExactDict ∧ o.data = .dict es ep ∧ es.toList = xs.map (entryOfKey (tupleKind (mixKind P w))) ∧ (xs.map (·.1)).Nodup
  | .set S n => h.SetOf (intKind P w) a S n
  | .ins C dx fs => H dx = some (.own a) ∧ fs.length ≤ 1000 ∧ dx ≠ a ∧ h.get? a = some (PySem.W.instObj C dx) ∧
      ∃ mA, h.Ns1 dx mA ∧ (∀ f, RelO (fs.lookup f) (mA f)) ∧ PySem.Within mA (fs.map (·.1))
  | .own _ => ∃ o, h.get? a = some o
  | .xd fs => ∃ mA, h.Ns1 a mA ∧ ∀ f, RelO (fs.lookup f) (mA f)
  | .rng lo hi => ∃ t u v, h.get? a = some { cls := .type "range", data := .fields #[.int lo t, .int hi u, .int 1 v] }
  | .frz o u => h.get? a = some o ∧ ObjOk H h a u
  | .tbl ps => h.get? a = some { cls := .none, data := .fields ps }
  | .met f x => h.get? a = some (PySem.W.methodObj (.ref f) (.ref x))
  | .ext φ => φ h ∧ (∃ o, h.get? a = some o) ∧ ∀ h1 h2 : Heap, φ h1 → (∀ o, h1.get? a = some o → h2.get? a = some o) → φ h2
/-- the abstract heap is held -/
def HOk (H : Hp) (h : Heap) : Prop := ∀ a o, H a = some o → ObjOk P w H h a o
end

section
variable {P : Program} {w : World} {H H' : Hp} {h h' : Heap} {a : Addr} {o : HO}
theorem ObjOk.lt (x : ObjOk P w H h a o) : a < h.objs.size := by
  cases o with
  | lst xs => obtain ⟨_, _, _, _, e⟩ := x; exact Heap.lt_size e
  | tup xs => obtain ⟨_, _, _, p⟩ := x; exact p.lt
  | dK kvs => obtain ⟨_, _, _, _, o, _, _, e, _⟩ := x; exact Heap.lt_size e
  | dT kvs => obtain ⟨_, _, _, _, o, _, _, e, _⟩ := x; exact Heap.lt_size e
  | set S n => obtain ⟨o, _, _, _, e, _⟩ := x; exact Heap.lt_size e
  | ins C dx fs => obtain ⟨_, _, _, e, _⟩ := x; exact Heap.lt_size e
  | own y => obtain ⟨_, e⟩ := x; exact Heap.lt_size e
  | xd fs => obtain ⟨_, ⟨_, _, _, e, _⟩, _⟩ := x; exact Heap.lt_size e
  | rng lo hi => obtain ⟨_, _, _, e⟩ := x; exact Heap.lt_size e
  | frz ob u => obtain ⟨e, _⟩ := x; exact Heap.lt_size e
  | tbl ps => exact Heap.lt_size (show h.get? a = some _ from x)
  | met f y => exact Heap.lt_size (show h.get? a = some _ from x)
  | ext φ => obtain ⟨_, ⟨_, e⟩, _⟩ := x; exact Heap.lt_size e
theorem Paired.mapP {α β : Type} {F G : α → β → Prop} : ∀ {l₁ : List α} {l₂ : List β}, Paired F l₁ l₂ → (∀ a b, F a b → G a b) → Paired G l₁ l₂
  | _, _, .nil, _ => .nil
  | _, _, .cons r t, f => .cons (f _ _ r) (Paired.mapP t f)
theorem Paired.imp' {α β : Type} {F G : α → β → Prop} (f : ∀ a b, F a b → G a b) {l₁ : List α} {l₂ : List β} (r : Paired F l₁ l₂) : Paired G l₁ l₂ := Paired.mapP r f
/-- what an object's description leans on: its own object, its own dict, the tuples -/
theorem ObjOk.stay (x : ObjOk P w H h a o) (k : ∀ b u, (b = a ∨ H b = some (.own a)) → h.get? b = some u → h'.get? b = some u)
    (ho : ∀ b, H b = some (.own a) → H' b = some (.own a)) (ht : ∀ b xs, H b = some (.tup xs) → H' b = some (.tup xs)) : ObjOk P w H' h' a o := by
  induction o with
  | lst xs => obtain ⟨z, its, n, r, e⟩ := x; exact ⟨z, its, n, r, k _ _ (.inl rfl) e⟩
  | tup xs => obtain ⟨z, its, r, ob, e, c⟩ := x; exact ⟨z, its, r, ob, k _ _ (.inl rfl) e, c⟩
  | dK kvs => obtain ⟨z, y, vs, r, ob, es, ep, e, c⟩ := x; exact ⟨z, y, vs, r, ob, es, ep, k _ _ (.inl rfl) e, c⟩
  | dT kvs =>
    obtain ⟨z, y, xs, r, ob, es, ep, e, c⟩ := x
    exact ⟨z, y, xs, Paired.mapP r fun p q z => ⟨z.1, ht _ _ z.2.1, z.2.2⟩, ob, es, ep, k _ _ (.inl rfl) e, c⟩
  | set S n => obtain ⟨ob, es, ep, t, e, c⟩ := x; exact ⟨ob, es, ep, t, k _ _ (.inl rfl) e, c⟩
  | ins C dx fs =>
    obtain ⟨d, z, ne, e, mA, ⟨od, es, ep, e2, c⟩, r⟩ := x
    exact ⟨ho _ d, z, ne, k _ _ (.inl rfl) e, mA, ⟨od, es, ep, k _ _ (.inr d) e2, c⟩, r⟩
  | own y => obtain ⟨ob, e⟩ := x; exact ⟨ob, k _ _ (.inl rfl) e⟩
  | xd fs => obtain ⟨mA, ⟨od, es, ep, e, c⟩, r⟩ := x; exact ⟨mA, ⟨od, es, ep, k _ _ (.inl rfl) e, c⟩, r⟩
  | rng lo hi => obtain ⟨t, u, v, e⟩ := x; exact ⟨t, u, v, k _ _ (.inl rfl) e⟩
  | frz ob u ih => obtain ⟨e, q⟩ := x; exact ⟨k _ _ (.inl rfl) e, ih q⟩
  | tbl ps =>
    have e : h.get? a = some { cls := .none, data := .fields ps } := x
    show h'.get? a = some { cls := .none, data := .fields ps }
    exact k a _ (.inl rfl) e
  | met f y =>
    have e : h.get? a = some (PySem.W.methodObj (.ref f) (.ref y)) := x
    show h'.get? a = some (PySem.W.methodObj (.ref f) (.ref y))
    exact k a _ (.inl rfl) e
  | ext φ => obtain ⟨p, ⟨o, e⟩, st⟩ := x; exact ⟨st _ _ p fun o q => k _ _ (.inl rfl) q, ⟨o, k _ _ (.inl rfl) e⟩, st⟩
theorem HOk.lt (x : HOk P w H h) (e : H a = some o) : a < h.objs.size := (x a o e).lt
theorem HOk.fresh (x : HOk P w H h) (e : h.objs.size ≤ a) : H a = none := by
  cases q : H a with
  | none => rfl
  | some u => exact absurd (Nat.lt_of_lt_of_le (x.lt q) e) (Nat.lt_irrefl _)
/-- every object of the heap is kept -/
theorem HOk.kept (x : HOk P w H h) (k : ∀ b u, h.get? b = some u → h'.get? b = some u) : HOk P w H h' := fun a o e =>
  (x a o e).stay (fun b u _ q => k b u q) (fun _ q => q) fun _ _ q => q
/-- a new object is laid and tracked -/
theorem HOk.laid (x : HOk P w H h) (k : ∀ b u, h.get? b = some u → h'.get? b = some u) (hp : h.objs.size ≤ a) (new : ObjOk P w (upd H a o) h' a o) : HOk P w (upd H a o) h' := fun b u e => by
  have hn := x.fresh hp
  by_cases hb : b = a
  · subst hb; rw [upd_same] at e; cases e; exact new
  · rw [upd_ne hb] at e
    exact (x b u e).stay (fun c v _ q => k c v q) (fun c q => by rw [upd_ne (ne_of_none q hn)]; exact q) fun c xs q => by rw [upd_ne (ne_of_none q hn)]; exact q
end

/-- what may be read as u: it is u, or a known u -/
def Rd (H : Hp) (a : Addr) (u : HO) : Prop := H a = some u ∨ ∃ o, H a = some (.frz o u)
theorem Rd.of {H : Hp} {a : Addr} {u : HO} (h : H a = some u) : Rd H a u := .inl h
theorem Rd.ok {P : Program} {w : World} {H : Hp} {h : Heap} {a : Addr} {u : HO} (r : Rd H a u) (x : HOk P w H h) : ObjOk P w H h a u := by
  rcases r with r | ⟨o, r⟩
  · exact x a u r
  · obtain ⟨_, q⟩ := x a _ r
    exact q
/-- what may be written -/
def Mut : Option HO → Prop
  | some (.lst _) => True
  | some (.dK _) => True
  | some (.dT _) => True
  | some (.set _ _) => True
  | some (.ins _ _ _) => True
  | some (.ext _) => True
  | _ => False
section
variable {P : Program} {w : World} {H : Hp} {h h' : Heap} {x e : Addr} {o' : HO}
/-- the object at e is changed: x itself, or the dict of the instance x -/
theorem HOk.write (ok : HOk P w H h) (mu : Mut (H x)) (he : e = x ∨ H e = some (.own x)) (k : ∀ b u, b ≠ e → h.get? b = some u → h'.get? b = some u) (heo : ∃ u, h'.get? e = some u)
    (new : ObjOk P w (upd H x o') h' x o') : HOk P w (upd H x o') h' := fun b u q => by
  have nown : ∀ c y, H c = some (.own y) → c ≠ x := fun c y r z => by subst z; rw [r] at mu; exact mu
  have ntup : ∀ c xs, H c = some (.tup xs) → c ≠ x := fun c xs r z => by subst z; rw [r] at mu; exact mu
  by_cases hb : b = x
  · subst hb; rw [upd_same] at q; cases q; exact new
  · rw [upd_ne hb] at q
    by_cases hbe : b = e
    · have q' : H b = some (.own x) := by
        rcases he with z | z
        · exact absurd (hbe.trans z) hb
        · rw [hbe]; exact z
      rw [q] at q'; cases q'
      obtain ⟨v, hv⟩ := heo
      exact ⟨v, by rw [hbe]; exact hv⟩
    · refine (ok b u q).stay (fun c v hc r => k c v ?_ r) (fun c r => by rw [upd_ne (nown c b r)]; exact r) fun c xs r => by rw [upd_ne (ntup c xs r)]; exact r
      rcases hc with rfl | hc
      · exact hbe
      · rintro rfl
        rcases he with z | z
        · exact nown c b hc z
        · rw [hc] at z; cases z; exact hb rfl
end

/-! ### kept unless tracked; of the frames at fs (the callers') the slots may change (an exception that passes writes there); of the records at ex (iterators) nothing is said -/
structure Un (fs ex : List Addr) (H H' : Hp) (h h' : Heap) : Prop where
  keep : ∀ b o, h.get? b = some o → H b = none → b ∉ fs → b ∉ ex → h'.get? b = some o
  slot : ∀ b o, h.get? b = some o → H b = none → b ∈ fs → b ∉ ex → ∃ sl, h'.get? b = some { o with slots := sl }
  free : ∀ b o, h.get? b = some o → H b = none → b ∉ ex → H' b = none
  there : ∀ b o, h.get? b = some o → b ∉ ex → ∃ o', h'.get? b = some o'
  tups : ∀ b xs, H b = some (.tup xs) → H' b = some (.tup xs)
  frzs : ∀ b o u, H b = some (.frz o u) → H' b = some (.frz o u)
  tbls : ∀ b ps, H b = some (.tbl ps) → ∃ more, H' b = some (.tbl (ps ++ more))
section
variable {fs fs' ex ex' : List Addr} {H H1 H2 : Hp} {h h1 h2 h' : Heap} {a x e : Addr} {o : HO}
theorem Un.any (u : Un fs ex H H1 h h1) {b : Addr} {ob : Obj} (q : h.get? b = some ob) (n : H b = none) (hx : b ∉ ex) : ∃ sl, h1.get? b = some { ob with slots := sl } := by
  by_cases hb : b ∈ fs
  · exact u.slot b ob q n hb hx
  · exact ⟨ob.slots, u.keep b ob q n hb hx⟩
theorem Un.trans (a : Un fs ex H H1 h h1) (b : Un fs ex H1 H2 h1 h2) : Un fs ex H H2 h h2 where
  keep := fun c ob q n hc hx => b.keep c ob (a.keep c ob q n hc hx) (a.free c ob q n hx) hc hx
  slot := fun c ob q n hc hx => by
    obtain ⟨sl, e1⟩ := a.slot c ob q n hc hx
    obtain ⟨sl', e2⟩ := b.slot c _ e1 (a.free c ob q n hx) hc hx
    exact ⟨sl', e2⟩
  free := fun c ob q n hx => by
    obtain ⟨o', e1⟩ := a.there c ob q hx
    exact b.free c o' e1 (a.free c ob q n hx) hx
  there := fun c ob q hx => by
    obtain ⟨o', e1⟩ := a.there c ob q hx
    exact b.there c o' e1 hx
  tups := fun c xs q => b.tups c xs (a.tups c xs q)
  frzs := fun c ob xs q => b.frzs c ob xs (a.frzs c ob xs q)
  tbls := fun c ps q => by
    obtain ⟨m1, e1⟩ := a.tbls c ps q
    obtain ⟨m2, e2⟩ := b.tbls c _ e1
    exact ⟨m1 ++ m2, by rw [e2, Array.append_assoc]⟩
theorem Un.kept (k : ∀ b u, h.get? b = some u → h'.get? b = some u) : Un fs ex H H h h' :=
  ⟨fun b ob q _ _ _ => k b ob q, fun b ob q _ _ _ => ⟨ob.slots, k b ob q⟩, fun _ _ _ n _ => n, fun b ob q _ => ⟨ob, k b ob q⟩, fun _ _ q => q, fun _ _ _ q => q, fun _ ps q => ⟨#[], by rw [q]; simp⟩⟩
theorem Un.refl : Un fs ex H H h h := Un.kept fun _ _ q => q
theorem Un.laid (k : ∀ b u, h.get? b = some u → h'.get? b = some u) (hp : h.objs.size ≤ a) (hn : H a = none) : Un fs ex H (upd H a o) h h' where
  keep := fun b u q _ _ _ => k b u q
  slot := fun b u q _ _ _ => ⟨u.slots, k b u q⟩
  free := fun b u q n _ => by rw [upd_ne (Nat.ne_of_lt (Nat.lt_of_lt_of_le (Heap.lt_size q) hp))]; exact n
  there := fun b u q _ => ⟨u, k b u q⟩
  tups := fun b xs q => by rw [upd_ne (ne_of_none q hn)]; exact q
  frzs := fun b u xs q => by rw [upd_ne (ne_of_none q hn)]; exact q
  tbls := fun b ps q => ⟨#[], by rw [upd_ne (ne_of_none q hn), q]; simp⟩
theorem Un.write (mu : Mut (H x)) (he : e = x ∨ H e = some (.own x)) (k : ∀ b u, b ≠ e → h.get? b = some u → h'.get? b = some u) (heo : ∃ u, h'.get? e = some u) : Un fs ex H (upd H x o) h h' := by
  have hx : ∀ b, H b = none → b ≠ x := fun b n z => by subst z; rw [n] at mu; exact mu
  have hb : ∀ b, H b = none → b ≠ e := fun b n z => by
    subst z
    rcases he with r | r
    · exact hx b n r
    · rw [n] at r; cases r
  have hm : ∀ b u, H b = some u → ¬ Mut (some u) → b ≠ x := fun b u q nm z => by subst z; rw [q] at mu; exact nm mu
  refine ⟨fun b u q n _ _ => k b u (hb b n) q, fun b u q n _ _ => ⟨u.slots, k b u (hb b n) q⟩, fun b u q n _ => by rw [upd_ne (hx b n)]; exact n, fun b u q _ => ?_,
    fun b xs q => by rw [upd_ne (hm b _ q fun z => z)]; exact q, fun b u xs q => by rw [upd_ne (hm b _ q fun z => z)]; exact q, fun b ps q => ⟨#[], by rw [upd_ne (hm b _ q fun z => z), q]; simp⟩⟩
  by_cases hbe : b = e
  · subst hbe; exact heo
  · exact ⟨u, k b u hbe q⟩
theorem Un.mono (u : Un fs ex H H1 h h1) (hs : ∀ b ∈ fs, b ∈ fs') (hx : ∀ b ∈ ex, b ∈ ex') : Un fs' ex' H H1 h h1 :=
  ⟨fun b ob q n hb he => u.keep b ob q n (fun z => hb (hs b z)) fun z => he (hx b z), fun _ _ q n _ he => u.any q n fun z => he (hx _ z), fun b ob q n he => u.free b ob q n fun z => he (hx b z), fun b ob q he => u.there b ob q fun z => he (hx b z), u.tups, u.frzs, u.tbls⟩
end

/-! ### the heap without what is tracked -/
def trk (h : Heap) (H : Hp) : List Addr := (List.range h.objs.size).filter fun a => (H a).isSome
def hidT (h : Heap) (H : Hp) : Heap := PySem.W.hideAll h (trk h H)
theorem hidT_size (h : Heap) (H : Hp) : (hidT h H).objs.size = h.objs.size := PySem.W.hideAll_size _ _
theorem hidT_get {h : Heap} {H : Hp} {b : Addr} {o : Obj} (e : h.get? b = some o) (n : H b = none) : (hidT h H).get? b = some o :=
  PySem.W.hideAll_get _ e fun hm => by
    have q : (H b).isSome = true := (List.mem_filter.mp hm).2
    rw [n] at q; simp at q
theorem of_hidT {h : Heap} {H : Hp} {b : Addr} {o : Obj} (e : (hidT h H).get? b = some o) : h.get? b = some o ∧ H b = none := by
  have e' : h.get? b = some o := PySem.W.of_hideAll (trk h H) e
  refine ⟨e', ?_⟩
  cases q : H b with
  | none => rfl
  | some x =>
    have hm : b ∈ trk h H := List.mem_filter.mpr ⟨List.mem_range.mpr (Heap.lt_size e'), by simp [q]⟩
    have z : (hidT h H).get? b = none := PySem.W.hideAll_none (trk h H) hm
    rw [z] at e; cases e

/-! ### OpenK's ledger, filled with every new object but one -/
def allNews (g h : Heap) (L : Addr) : List (Addr × Obj) := (List.range h.objs.size).filterMap fun a => if a = L ∨ (g.get? a).isSome = true then none else (h.get? a).map fun o => (a, o)
theorem mem_allNews {g h : Heap} {L a : Addr} {o : Obj} (h1 : a ≠ L) (h2 : g.get? a = none) (h3 : h.get? a = some o) : (a, o) ∈ allNews g h L :=
  List.mem_filterMap.mpr ⟨a, List.mem_range.mpr (Heap.lt_size h3), by simp [h1, h2, h3]⟩
theorem of_mem_allNews {g h : Heap} {L : Addr} {p : Addr × Obj} (hp : p ∈ allNews g h L) : p.1 ≠ L ∧ g.get? p.1 = none ∧ h.get? p.1 = some p.2 := by
  obtain ⟨b, _, e⟩ := List.mem_filterMap.mp hp
  split at e
  · cases e
  · rename_i hn
    cases q : h.get? b with
    | none => rw [q] at e; simp at e
    | some u =>
      rw [q] at e
      simp only [Option.map_some, Option.some.injEq] at e
      subst e
      refine ⟨fun z => hn (.inl z), ?_, q⟩
      show g.get? b = none
      cases r : g.get? b with
      | none => rfl
      | some v => exact (hn (.inr (by simp [r]))).elim
def rest (g h : Heap) (L d : Addr) : List (Addr × Obj) := (allNews g h L).filter fun p => decide (p.1 ≠ d)
theorem rest_ne {g h : Heap} {L d : Addr} : ∀ p ∈ rest g h L d, p.1 ≠ d := fun p hp => of_decide_eq_true (List.mem_filter.mp hp).2
theorem mem_rest {g h : Heap} {L d a : Addr} {o : Obj} (h1 : a ≠ L) (h2 : g.get? a = none) (h3 : h.get? a = some o) (h4 : a ≠ d) : (a, o) ∈ rest g h L d :=
  List.mem_filter.mpr ⟨mem_allNews h1 h2 h3, decide_eq_true h4⟩
theorem news_all {g h : Heap} {L : Addr} : News g L h (allNews g h L) := fun p hp => let ⟨a, b, c⟩ := of_mem_allNews hp; ⟨c, a, b⟩
theorem news_at {g h : Heap} {L d : Addr} {o : Obj} (h1 : d ≠ L) (h2 : g.get? d = none) (h3 : h.get? d = some o) : News g L h ((d, o) :: rest g h L d) := fun p hp => by
  rcases List.mem_cons.mp hp with rfl | hp
  · exact ⟨h3, h1, h2⟩
  · exact news_all p (List.mem_filter.mp hp).1
/-- behind a rule that changed d alone: all else but the frame is kept -/
theorem kept_of_news {g h h' : Heap} {L d : Addr} {m : Str → Option Value} (k : ∀ b o, g.get? b = some o → h.get? b = some o) (F : Fr g L h' m) (N : News g L h' (rest g h L d)) :
    ∀ b o, b ≠ L → b ≠ d → h.get? b = some o → h'.get? b = some o := fun b o h1 h2 e => by
  cases q : g.get? b with
  | some u =>
    have := k b u q
    rw [e] at this; cases this
    exact F.keep b _ q
  | none => exact (N (b, o) (mem_rest h1 q e h2)).1
end L2

namespace L2
open PySem PySem.Spec PyProof.Rows

/-- the module's facts, over the base: the heap at the law's entry without what is tracked there -/
structure Mod (K : PySem.W.Frag) (mg : Str → Option Value) (base : Heap) : Prop where
  kin : K.In base
  glob : base.Ns mainGlobals mg
  blt : ∃ mb, base.Ns builtinsNs mb ∧ ∀ x : Str, x ≠ "__name__" → mb x = bootBuiltins x
  nolimit : base.NoLimit

/-- the context: a def's body (or a comprehension's block) running. base: fixed through the whole law; s₀, H₀: the entry; outer: the frames whose slots others may change (a def's callers); stack: all frames that run;
   ex: iterators that were made ahead of the entry and are walked here (a comprehension's); fn: the names whose cells were made at the entry (a def: all; a comprehension's block: its own); calm: not within an except suite; pn: pins that every state bears; xe: what is wanted of an exception that leaves the code -/
structure Cx where
  prog : Program
  w : World
  K : PySem.W.Frag
  mg : Str → Option Value
  base : Heap
  A : Around
  N : List Str
  s₀ : Shared
  H₀ : Hp
  env : Env
  outer : List Env
  stack : List Env
  ex : List Addr
  fn : Str → Bool
  calm : Bool
  pn : List (Addr × Obj)
  xe : Value → Shared → Prop
/-- the callers' frames -/
def frs (l : List Env) : List Addr := l.filterMap (·.frame)
abbrev Cx.fs (X : Cx) : List Addr := frs X.outer

def Vis (sc : Scope) (x : Str) : Prop := sc.names.lookup x = some .local ∨ sc.names.lookup x = some .cell ∨ sc.names.lookup x = some .free
def Loc (sc : Scope) (x : Str) : Prop := sc.names.lookup x = some .local ∨ sc.names.lookup x = some .cell
def Look (env : Env) (h : Heap) (m : Str → Option Value) (x : Str) (u : Value) : Prop :=
  (env.kindOf x = some .local ∧ m x = some u) ∨ ((env.kindOf x = some .cell ∨ env.kindOf x = some .free) ∧ ∃ c, env.cells.lookup x = some c ∧ h.IsCell c (some u))

structure Cx.Ok (X : Cx) : Prop where
  mod : Mod X.K X.mg X.base
  kind : X.env.scope.kind = .function
  glob : X.env.globals = mainGlobals
  blt : X.env.builtins = builtinsNs
  above : X.s₀.heap.objs.size ≤ X.env.locals
  inj : ∀ x y c, X.env.cells.lookup x = some c → X.env.cells.lookup y = some c → x = y
  has : ∀ x, (X.env.kindOf x = some .cell ∨ X.env.kindOf x = some .free) → ∃ c, X.env.cells.lookup x = some c
  cab : ∀ x c, X.fn x = true → X.env.cells.lookup x = some c → X.s₀.heap.objs.size ≤ c
  hd : X.calm = true → X.A.handled = none
  frames : X.A.frames = some X.stack
  stk : X.stack = X.outer ∨ (X.stack = X.env :: X.outer ∧ X.env.frame = some X.env.locals)
  exf : ∀ b ∈ X.ex, b ≠ X.env.locals ∧ ∀ x c, X.env.cells.lookup x = some c → c ≠ b
  bs : ∀ b o, X.base.get? b = some o → X.s₀.heap.get? b = some o ∧ X.H₀ b = none
  bsz : X.base.objs.size ≤ X.s₀.heap.objs.size
  noex : ∀ b o, X.base.get? b = some o → b ∉ X.ex
  exfs : ∀ b ∈ X.ex, b ∉ X.fs
  funs : X.s₀.heap.FunFrames X.base X.outer
  frf : ∀ b ∈ X.fs, X.H₀ b = none

structure Inv (X : Cx) (pins : List (Addr × Obj)) (σ : List (Option V)) (H : Hp) (s : Shared) : Prop where
  ok : X.Ok
  os : s.os = X.s₀.os
  bare : AllBare s.gens
  base : Un X.fs X.ex X.H₀ H X.s₀.heap s.heap
  loc : ∃ m, s.heap.Ns X.env.locals m ∧ ∀ (i : Nat) (x : Str) (v : V), X.N[i]? = some x → σ[i]? = some (some v) → Vis X.env.scope x → ∃ u, RelV v u ∧ Look X.env s.heap m x u
  cell : ∀ x c, X.env.cells.lookup x = some c → ∃ v, s.heap.IsCell c v
  free : H X.env.locals = none
  freeC : ∀ x c, X.env.cells.lookup x = some c → H c = none
  pin : ∀ p ∈ X.pn ++ pins, s.heap.get? p.1 = some p.2 ∧ H p.1 = none ∧ p.1 ≠ X.env.locals ∧ p.1 ∉ X.fs ∧ ∀ v, p.2.data ≠ .cell v
  hok : HOk X.prog X.w H s.heap
  len : σ.length = X.N.length

section
variable {X : Cx} {pins : List (Addr × Obj)} {σ : List (Option V)} {H H' : Hp} {s : Shared} {h' : Heap}

theorem Cx.Ok.nofr (ok : X.Ok) {b : Addr} {o : Obj} (e : X.base.get? b = some o) : b ∉ X.fs := fun hb => by
  have := (ok.funs.mem hb).1
  rw [e] at this; cases this
theorem Inv.bs (I : Inv X pins σ H s) : ∀ b o, X.base.get? b = some o → s.heap.get? b = some o ∧ H b = none := fun b o e =>
  ⟨I.base.keep b o (I.ok.bs b o e).1 (I.ok.bs b o e).2 (I.ok.nofr e) (I.ok.noex b o e), I.base.free b o (I.ok.bs b o e).1 (I.ok.bs b o e).2 (I.ok.noex b o e)⟩
theorem Inv.bk (I : Inv X pins σ H s) : ∀ b o, X.base.get? b = some o → s.heap.get? b = some o := fun b o e => (I.bs b o e).1
theorem Inv.mod (I : Inv X pins σ H s) : Mod X.K X.mg X.base := I.ok.mod
theorem Inv.kIn (I : Inv X pins σ H s) : X.K.In s.heap := I.ok.mod.kin.keeps I.bk
theorem Inv.nolimit (I : Inv X pins σ H s) : s.heap.NoLimit := I.ok.mod.nolimit.keeps I.bk
/-- the frame over the base: for OpenK's rules (K.In X.base is I.mod.kin) -/
theorem Inv.fr (I : Inv X pins σ H s) : ∃ m, Fr X.base X.env.locals s.heap m :=
  let ⟨m, hn, _⟩ := I.loc
  ⟨m, hn, I.bk, Nat.le_trans I.ok.bsz I.ok.above⟩
theorem Inv.lt (I : Inv X pins σ H s) : X.env.locals < s.heap.objs.size := let ⟨_, hn, _⟩ := I.loc; hn.lt
theorem Inv.sz (I : Inv X pins σ H s) : X.s₀.heap.objs.size ≤ s.heap.objs.size := Nat.le_trans I.ok.above (Nat.le_of_lt I.lt)
theorem Inv.nofs (I : Inv X pins σ H s) {a : Addr} (h : s.heap.objs.size ≤ a) : a ∉ X.fs := fun hb => by
  obtain ⟨_, o, ho, _⟩ := I.ok.funs.mem hb
  exact absurd (Nat.lt_of_lt_of_le (Heap.lt_size ho) (Nat.le_trans I.sz h)) (Nat.lt_irrefl _)
theorem Inv.cne (I : Inv X pins σ H s) : ∀ x c, X.env.cells.lookup x = some c → c ≠ X.env.locals := fun x c e z => by
  obtain ⟨v, o, ho, hd⟩ := I.cell x c e
  obtain ⟨m, ⟨o', es, ep, ho', hd', _⟩, _⟩ := I.loc
  rw [z, ho'] at ho; cases ho; rw [hd'] at hd; cases hd
theorem Inv.funs (I : Inv X pins σ H s) : s.heap.FunFrames X.base X.outer := by
  have all : ∀ (l : List Env), (∀ b ∈ frs l, b ∈ X.fs) → X.s₀.heap.FunFrames X.base l → s.heap.FunFrames X.base l := by
    intro l
    induction l with
    | nil => intro _ _; trivial
    | cons env r ih =>
      intro hs hl
      obtain ⟨hk, ⟨L, o, hf, hn, ho, hd⟩, hr⟩ := hl
      have hL : L ∈ X.fs := hs L (by unfold frs; rw [List.filterMap_cons, hf]; exact List.mem_cons_self)
      obtain ⟨sl, e⟩ := I.base.slot L o ho (I.ok.frf L hL) hL fun z => I.ok.exfs L z hL
      exact ⟨hk, ⟨L, _, hf, hn, e, hd⟩, ih (fun b hb => hs b (by unfold frs; rw [List.filterMap_cons, hf]; exact List.mem_cons_of_mem _ hb)) hr⟩
  exact all X.outer (fun _ hb => hb) I.ok.funs

/-- the frames that run, for a call -/
theorem Inv.stack (I : Inv X pins σ H s) : s.heap.FunFrames X.base X.stack := by
  rcases I.ok.stk with e | ⟨e, hf⟩
  · rw [e]; exact I.funs
  · rw [e]
    obtain ⟨m, hn, _⟩ := I.loc
    refine .cons (by rw [I.ok.kind]; decide) hf hn ?_ I.funs
    exact Heap.get?_none_of_le (Nat.le_trans I.ok.bsz I.ok.above)
theorem Inv.stkSub (I : Inv X pins σ H s) : ∀ b ∈ frs X.stack, b ∈ X.env.locals :: X.fs := fun b hb => by
  rcases I.ok.stk with e | ⟨e, hf⟩
  · rw [e] at hb; exact List.mem_cons_of_mem _ hb
  · rw [e] at hb
    unfold frs at hb
    rw [List.filterMap_cons, hf] at hb
    exact hb
theorem Inv.stkFree (I : Inv X pins σ H s) : ∀ b ∈ frs X.stack, H b = none := fun b hb => by
  rcases List.mem_cons.mp (I.stkSub b hb) with e | hb
  · rw [e]; exact I.free
  · obtain ⟨_, o, ho, _⟩ := I.ok.funs.mem hb
    exact I.base.free b o ho (I.ok.frf b hb) fun z => I.ok.exfs b z hb

/-- THE STEP: the untracked objects but the frame and the records at ch are kept (the callers' frames up to slots), the frame's map is kept, the new abstract heap is held -/
theorem Inv.step {g' : Array GenState} {t' : Nat} {d' : Drawn} {ch : List Addr} (I : Inv X pins σ H s)
    (hch : ∀ b ∈ ch, (b ∈ X.ex ∨ X.s₀.heap.objs.size ≤ b) ∧ b ≠ X.env.locals ∧ (∀ x c, X.env.cells.lookup x = some c → c ≠ b) ∧ ∀ p ∈ X.pn ++ pins, p.1 ≠ b)
    (keep : ∀ b o, b ≠ X.env.locals → b ∉ X.fs → b ∉ ch → s.heap.get? b = some o → H b = none → h'.get? b = some o)
    (slot : ∀ b o, b ≠ X.env.locals → b ∈ X.fs → b ∉ ch → s.heap.get? b = some o → H b = none → ∃ sl, h'.get? b = some { o with slots := sl }) (free : ∀ b o, b ∉ ch → s.heap.get? b = some o → H b = none → H' b = none)
    (there : ∀ b o, b ∉ ch → s.heap.get? b = some o → ∃ o', h'.get? b = some o')
    (tups : ∀ b xs, H b = some (.tup xs) → H' b = some (.tup xs)) (frzs : ∀ b o u, H b = some (.frz o u) → H' b = some (.frz o u)) (tbls : ∀ b ps, H b = some (.tbl ps) → ∃ more, H' b = some (.tbl (ps ++ more)))
    (ns : ∀ m, s.heap.Ns X.env.locals m → h'.Ns X.env.locals m) (hok : HOk X.prog X.w H' h') (hg : AllBare g') :
    Inv X pins σ H' { s with heap := h', gens := g', drawn := d', toks := t' } := by
  have neL : ∀ b o, X.s₀.heap.get? b = some o → b ≠ X.env.locals := fun b o e => Nat.ne_of_lt (Nat.lt_of_lt_of_le (Heap.lt_size e) I.ok.above)
  have neC : ∀ b o, X.s₀.heap.get? b = some o → b ∉ X.ex → b ∉ ch := fun b o e hx hb => by
    rcases (hch b hb).1 with z | z
    · exact hx z
    · exact absurd (Nat.lt_of_lt_of_le (Heap.lt_size e) z) (Nat.lt_irrefl _)
  have cellK : ∀ x c, X.env.cells.lookup x = some c → ∀ v, s.heap.IsCell c v → h'.IsCell c v := fun x c e v ⟨o, ho, hd⟩ => by
    have nch : c ∉ ch := fun z => (hch c z).2.2.1 x c e rfl
    by_cases hc : c ∈ X.fs
    · obtain ⟨sl, q⟩ := slot c o (I.cne x c e) hc nch ho (I.freeC x c e)
      exact ⟨_, q, hd⟩
    · exact ⟨o, keep c o (I.cne x c e) hc nch ho (I.freeC x c e), hd⟩
  refine ⟨I.ok, I.os, hg, ⟨fun b o e n hb hx => ?_, fun b o e n hb hx => ?_, fun b o e n hx => ?_, fun b o e hx => ?_, fun b xs e => tups b xs (I.base.tups b xs e), fun b o xs e => frzs b o xs (I.base.frzs b o xs e), fun b ps e => ?_⟩, ?_, fun x c e => ?_, ?_, fun x c e => ?_, fun p hp => ?_, hok, I.len⟩
  · exact keep b o (neL b o e) hb (neC b o e hx) (I.base.keep b o e n hb hx) (I.base.free b o e n hx)
  · obtain ⟨sl, e1⟩ := I.base.slot b o e n hb hx
    obtain ⟨sl', e2⟩ := slot b _ (neL b o e) hb (neC b o e hx) e1 (I.base.free b o e n hx)
    exact ⟨sl', e2⟩
  · obtain ⟨o', e1⟩ := I.base.there b o e hx
    exact free b o' (neC b o e hx) e1 (I.base.free b o e n hx)
  · obtain ⟨o', e1⟩ := I.base.there b o e hx
    exact there b o' (neC b o e hx) e1
  · obtain ⟨m1, e1⟩ := I.base.tbls b ps e
    obtain ⟨m2, e2⟩ := tbls b _ e1
    exact ⟨m1 ++ m2, by rw [e2, Array.append_assoc]⟩
  · obtain ⟨m, hn, hl⟩ := I.loc
    refine ⟨m, ns m hn, fun i x v e1 e2 e3 => ?_⟩
    obtain ⟨u, r, l⟩ := hl i x v e1 e2 e3
    refine ⟨u, r, ?_⟩
    rcases l with l | ⟨k, c, e, z⟩
    · exact .inl l
    · exact .inr ⟨k, c, e, cellK x c e _ z⟩
  · obtain ⟨v, z⟩ := I.cell x c e
    exact ⟨v, cellK x c e v z⟩
  · obtain ⟨m, ⟨o, _, _, ho, _⟩, _⟩ := I.loc
    exact free _ o (fun z => (hch _ z).2.1 rfl) ho I.free
  · obtain ⟨v, o, ho, hd⟩ := I.cell x c e
    exact free c o (fun z => (hch c z).2.2.1 x c e rfl) ho (I.freeC x c e)
  · obtain ⟨e, n, ne, nf, d⟩ := I.pin p hp
    have nch : p.1 ∉ ch := fun z => (hch p.1 z).2.2.2 p hp rfl
    exact ⟨keep p.1 p.2 ne nf nch e n, free p.1 p.2 nch e n, ne, nf, d⟩
/-- .. where the frame's own object is kept too -/
theorem Inv.un {t' : Nat} (I : Inv X pins σ H s) (u : Un X.fs [] H H' s.heap h') (hok : HOk X.prog X.w H' h') : Inv X pins σ H' { s with heap := h', toks := t' } := by
  obtain ⟨m, ⟨o, es, ep, ho, r⟩, _⟩ := id I.loc
  obtain ⟨sl, hL⟩ := u.any ho I.free (by simp)
  exact I.step (g' := s.gens) (d' := s.drawn) (ch := []) (fun _ z => nomatch z) (fun b o _ hb _ e n => u.keep b o e n hb (by simp)) (fun b o _ hb _ e n => u.slot b o e n hb (by simp)) (fun b o _ e n => u.free b o e n (by simp)) (fun b o _ e => u.there b o e (by simp)) u.tups u.frzs u.tbls (fun m' hm => by
    obtain ⟨o', es', ep', ho', r'⟩ := hm
    rw [ho] at ho'; cases ho'
    exact ⟨_, es', ep', hL, r'⟩) hok I.bare
/-- behind a call (or a comprehension's block): the slots of this frame may have changed too, the records at ch may have turned -/
theorem Inv.call {g' : Array GenState} {t' : Nat} {d' : Drawn} {ch : List Addr} (I : Inv X pins σ H s) (u : Un (frs X.stack) ch H H' s.heap h') (hok : HOk X.prog X.w H' h') (hg : AllBare g')
    (hch : ∀ b ∈ ch, (b ∈ X.ex ∨ X.s₀.heap.objs.size ≤ b) ∧ b ≠ X.env.locals ∧ (∀ x c, X.env.cells.lookup x = some c → c ≠ b) ∧ ∀ p ∈ X.pn ++ pins, p.1 ≠ b) :
    Inv X pins σ H' { s with heap := h', gens := g', drawn := d', toks := t' } := by
  obtain ⟨m, ⟨o, es, ep, ho, r⟩, _⟩ := id I.loc
  obtain ⟨sl, hL⟩ := u.any ho I.free fun z => (hch _ z).2.1 rfl
  exact I.step (ch := ch) hch (fun b o hL hb hc e n => u.keep b o e n (fun z => (List.mem_cons.mp (I.stkSub b z)).elim hL hb) hc) (fun b o _ _ hc e n => u.any e n hc) (fun b o hc e n => u.free b o e n hc) (fun b o hc e => u.there b o e hc) u.tups u.frzs u.tbls (fun m' hm => by
    obtain ⟨o', es', ep', ho', r'⟩ := hm
    rw [ho] at ho'; cases ho'
    exact ⟨_, es', ep', hL, r'⟩) hok hg
/-- an untracked record of ours (an iterator) has turned -/
theorem Inv.turned {t' : Nat} {it : Addr} (I : Inv X pins σ H s) (k : ∀ b o, b ≠ it → s.heap.get? b = some o → h'.get? b = some o) (hn : H it = none) (hL : it ≠ X.env.locals)
    (h1 : it ∈ X.ex ∨ X.s₀.heap.objs.size ≤ it) (h2 : ∀ x c, X.env.cells.lookup x = some c → c ≠ it) (h3 : ∀ p ∈ X.pn ++ pins, p.1 ≠ it) : Inv X pins σ H { s with heap := h', toks := t' } := by
  have nit : ∀ b u, H b = some u → b ≠ it := fun b u e z => by rw [z, hn] at e; cases e
  refine I.step (g' := s.gens) (d' := s.drawn) (ch := [it]) (fun b hb => ?_) (fun b o _ _ hc e _ => k b o (fun z => hc (by simp [z])) e) (fun b o _ _ hc e _ => ⟨o.slots, k b o (fun z => hc (by simp [z])) e⟩) (fun _ _ _ _ n => n)
    (fun b o hc e => ⟨o, k b o (fun z => hc (by simp [z])) e⟩) (fun _ _ e => e) (fun _ _ _ e => e) (fun b ps e => ⟨#[], by rw [e]; simp⟩) (fun m hm => ?_) (fun b u e => ?_) I.bare
  · have e : b = it := by simpa using hb
    subst e
    exact ⟨h1, hL, h2, h3⟩
  · obtain ⟨o, es, ep, ho, r⟩ := hm
    exact ⟨o, es, ep, k _ o (Ne.symm hL) ho, r⟩
  · refine (I.hok b u e).stay (fun c v hc q => k c v ?_ q) (fun _ q => q) fun _ _ q => q
    rcases hc with z | z
    · rw [z]; exact nit b u e
    · exact nit c _ z
theorem Inv.tok (I : Inv X pins σ H s) (t : Nat) : Inv X pins σ H { s with toks := t } := I.un (h' := s.heap) (t' := t) Un.refl I.hok
/-- all objects kept -/
theorem Inv.kept {t' : Nat} (I : Inv X pins σ H s) (k : ∀ b u, s.heap.get? b = some u → h'.get? b = some u) : Inv X pins σ H { s with heap := h', toks := t' } := I.un (Un.kept k) (I.hok.kept k)
/-- a new object laid and tracked -/
theorem Inv.laid {a : Addr} {o : HO} {t' : Nat} (I : Inv X pins σ H s) (k : ∀ b u, s.heap.get? b = some u → h'.get? b = some u) (hp : s.heap.objs.size ≤ a) (new : ObjOk X.prog X.w (upd H a o) h' a o) :
    Inv X pins σ (upd H a o) { s with heap := h', toks := t' } := I.un (Un.laid k hp (I.hok.fresh hp)) (I.hok.laid k hp new)
/-- an object written -/
theorem Inv.write {x e : Addr} {o : HO} {t' : Nat} (I : Inv X pins σ H s) (mu : Mut (H x)) (he : e = x ∨ H e = some (.own x)) (k : ∀ b u, b ≠ e → s.heap.get? b = some u → h'.get? b = some u) (heo : ∃ u, h'.get? e = some u)
    (new : ObjOk X.prog X.w (upd H x o) h' x o) : Inv X pins σ (upd H x o) { s with heap := h', toks := t' } := I.un (Un.write mu he k heo) (I.hok.write mu he k heo new)
/-- forgetting slots, pins -/
theorem Inv.weak {σ' : List (Option V)} (I : Inv X pins σ H s) (hl : σ'.length = σ.length) (w : ∀ (i : Nat) v, σ'[i]? = some (some v) → σ[i]? = some (some v)) : Inv X pins σ' H s :=
  ⟨I.ok, I.os, I.bare, I.base, let ⟨m, hn, hl'⟩ := I.loc; ⟨m, hn, fun i x v e1 e2 e3 => hl' i x v e1 (w i v e2) e3⟩, I.cell, I.free, I.freeC, I.pin, I.hok, hl.trans I.len⟩
theorem Inv.pins_of {pins' : List (Addr × Obj)} (I : Inv X pins σ H s) (h : ∀ p ∈ pins', s.heap.get? p.1 = some p.2 ∧ H p.1 = none ∧ p.1 ≠ X.env.locals ∧ p.1 ∉ X.fs ∧ ∀ v, p.2.data ≠ .cell v) : Inv X pins' σ H s :=
  ⟨I.ok, I.os, I.bare, I.base, I.loc, I.cell, I.free, I.freeC, fun p hp => (List.mem_append.mp hp).elim (fun z => I.pin p (List.mem_append_left _ z)) (h p), I.hok, I.len⟩

theorem nodup_ix {N : List Str} (hN : N.Nodup) {i j : Nat} {x : Str} (a : N[i]? = some x) (b : N[j]? = some x) : i = j := by
  obtain ⟨h1, e1⟩ := List.getElem?_eq_some_iff.mp a
  obtain ⟨h2, e2⟩ := List.getElem?_eq_some_iff.mp b
  exact (List.getElem_inj hN).mp (e1.trans e2.symm)

/-- a name is stored; what changed -/
theorem store_ok2 {M : Model} {A : Around} {E : Value → Shared → Prop} {i : Nat} {x : Str} {v : V} {u : Value} {Q : Unit → Shared → Prop} (I : Inv X pins σ H s) (hN : X.N.Nodup) (hi : X.N[i]? = some x) (hx : Loc X.env.scope x) (r : RelV v u)
    (h : ∀ s', Inv X pins (σ.set i (some v)) H s' → (∃ a, Heap.SameBut a s.heap s'.heap ∧ (a = X.env.locals ∨ X.env.cells.lookup x = some a)) → Q () s') (hf : X.fn x = true ∨ X.env.scope.names.lookup x = some .local := by first | exact .inl rfl | exact .inr rfl | assumption) : wpAny M A (storeName X.env x u) Q E s := by
  obtain ⟨m, hn, hl⟩ := id I.loc
  have hcls : (X.env.scope.kind == .class || (X.env.scope.kind == .module && X.env.locals != X.env.globals)) = false := by rw [I.ok.kind]; rfl
  have hiσ : i < σ.length := by rw [I.len]; exact (List.getElem?_eq_some_iff.mp hi).1
  have cne := I.cne
  have tracked : ∀ {a : Addr} {h' : Heap}, (∃ o, s.heap.get? a = some o ∧ H a = none) → Heap.SameBut a s.heap h' → HOk X.prog X.w H h' := fun {a h'} ha hs b ob e => by
    obtain ⟨_, _, hfree⟩ := ha
    refine (I.hok b ob e).stay (fun c w' hc q => (hs.2 c ?_).trans q) (fun _ q => q) fun _ _ q => q
    rintro rfl
    rcases hc with rfl | hc
    · rw [hfree] at e; cases e
    · rw [hfree] at hc; cases hc
  rcases hx with hk | hk
  · refine wpAny_storeName_local hk hn (fun h' hn' hs => ?_) hcls
    obtain ⟨oL, _, _, hoL, _⟩ := id hn
    refine h _ ⟨I.ok, I.os, I.bare, ⟨fun b o e n hb hx => ?_, fun b o e n hb hx => ?_, I.base.free, fun b o e hx => ?_, I.base.tups, I.base.frzs, I.base.tbls⟩, ⟨_, hn', fun j y v' e1 e2 e3 => ?_⟩, fun y c e => ?_, I.free, I.freeC, fun p hp => ?_, tracked ⟨oL, hoL, I.free⟩ hs, by simpa using I.len⟩ ⟨_, hs, .inl rfl⟩
    · exact (hs.2 b (Nat.ne_of_lt (Nat.lt_of_lt_of_le (Heap.lt_size e) I.ok.above))).trans (I.base.keep b o e n hb hx)
    · obtain ⟨sl, e1⟩ := I.base.slot b o e n hb hx
      exact ⟨sl, (hs.2 b (Nat.ne_of_lt (Nat.lt_of_lt_of_le (Heap.lt_size e) I.ok.above))).trans e1⟩
    · obtain ⟨o', e1⟩ := I.base.there b o e hx
      exact ⟨o', (hs.2 b (Nat.ne_of_lt (Nat.lt_of_lt_of_le (Heap.lt_size e) I.ok.above))).trans e1⟩
    · by_cases hj : j = i
      · subst hj
        rw [hi] at e1; cases e1
        rw [List.getElem?_set_self hiσ] at e2
        cases e2
        exact ⟨u, r, .inl ⟨hk, by simp⟩⟩
      · rw [List.getElem?_set_ne (Ne.symm hj)] at e2
        obtain ⟨u', r', q⟩ := hl j y v' e1 e2 e3
        refine ⟨u', r', ?_⟩
        rcases q with ⟨k, e⟩ | ⟨k, c, e, z⟩
        · refine .inl ⟨k, ?_⟩
          have : y ≠ x := fun e => hj (nodup_ix hN e1 (e ▸ hi))
          simp [this, e]
        · exact .inr ⟨k, c, e, z.sameBut hs (cne y c e)⟩
    · obtain ⟨w', z⟩ := I.cell y c e
      exact ⟨w', z.sameBut hs (cne y c e)⟩
    · obtain ⟨e, n, ne, nf, d⟩ := I.pin p hp
      exact ⟨(hs.2 p.1 ne).trans e, n, ne, nf, d⟩
  · have hfn : X.fn x = true := by
      rcases hf with z | z
      · exact z
      · rw [z] at hk; cases hk
    obtain ⟨c, hc⟩ := I.ok.has x (.inl hk)
    obtain ⟨w', z⟩ := I.cell x c hc
    refine wpAny_storeName_cell I.ok.kind hk hc z (fun h' hc' hs => ?_)
    obtain ⟨oc, hoc, hocd⟩ := id z
    refine h { s with heap := h' } ⟨I.ok, I.os, I.bare, ⟨fun b o e n hb hx => ?_, fun b o e n hb hx => ?_, I.base.free, fun b o e hx => ?_, I.base.tups, I.base.frzs, I.base.tbls⟩, ⟨m, hn.sameBut hs (Ne.symm (cne x c hc)), fun j y v' e1 e2 e3 => ?_⟩, fun y c' e => ?_, I.free, I.freeC, fun p hp => ?_, tracked ⟨oc, hoc, I.freeC x c hc⟩ hs, by simpa using I.len⟩ ⟨c, hs, .inr hc⟩
    · exact (hs.2 b (Nat.ne_of_lt (Nat.lt_of_lt_of_le (Heap.lt_size e) (I.ok.cab x c hfn hc)))).trans (I.base.keep b o e n hb hx)
    · obtain ⟨sl, e1⟩ := I.base.slot b o e n hb hx
      exact ⟨sl, (hs.2 b (Nat.ne_of_lt (Nat.lt_of_lt_of_le (Heap.lt_size e) (I.ok.cab x c hfn hc)))).trans e1⟩
    · obtain ⟨o', e1⟩ := I.base.there b o e hx
      exact ⟨o', (hs.2 b (Nat.ne_of_lt (Nat.lt_of_lt_of_le (Heap.lt_size e) (I.ok.cab x c hfn hc)))).trans e1⟩
    · by_cases hj : j = i
      · subst hj
        rw [hi] at e1; cases e1
        rw [List.getElem?_set_self hiσ] at e2
        cases e2
        exact ⟨u, r, .inr ⟨.inl hk, c, hc, hc'⟩⟩
      · rw [List.getElem?_set_ne (Ne.symm hj)] at e2
        obtain ⟨u', r', q⟩ := hl j y v' e1 e2 e3
        refine ⟨u', r', ?_⟩
        rcases q with q | ⟨k, c', e, z'⟩
        · exact .inl q
        · refine .inr ⟨k, c', e, z'.sameBut hs ?_⟩
          rintro rfl
          exact hj (nodup_ix hN e1 (I.ok.inj _ _ _ e hc ▸ hi))
    · by_cases hcc : c' = c
      · subst hcc; exact ⟨_, hc'⟩
      · obtain ⟨w2, z2⟩ := I.cell y c' e
        exact ⟨w2, z2.sameBut hs hcc⟩
    · obtain ⟨e, n, ne, nf, d⟩ := I.pin p hp
      refine ⟨(hs.2 p.1 ?_).trans e, n, ne, nf, d⟩
      intro q
      rw [q, hoc] at e
      have q' : oc = p.2 := Option.some.inj e
      exact d w' (by rw [← q']; exact hocd)
theorem store_ok {M : Model} {A : Around} {E : Value → Shared → Prop} {i : Nat} {x : Str} {v : V} {u : Value} {Q : Unit → Shared → Prop} (I : Inv X pins σ H s) (hN : X.N.Nodup) (hi : X.N[i]? = some x) (hx : Loc X.env.scope x) (r : RelV v u)
    (h : ∀ s', Inv X pins (σ.set i (some v)) H s' → Q () s') (hf : X.fn x = true ∨ X.env.scope.names.lookup x = some .local := by first | exact .inl rfl | exact .inr rfl | assumption) : wpAny M A (storeName X.env x u) Q E s :=
  store_ok2 I hN hi hx r (fun s' I' _ => h s' I') hf
/-- behind a call or a block, the state as it is -/
theorem Inv.call' {s' : Shared} {ch : List Addr} (I : Inv X pins σ H s) (ho : s'.os = s.os) (u : Un (frs X.stack) ch H H' s.heap s'.heap) (hok : HOk X.prog X.w H' s'.heap) (hg : AllBare s'.gens)
    (hch : ∀ b ∈ ch, (b ∈ X.ex ∨ X.s₀.heap.objs.size ≤ b) ∧ b ≠ X.env.locals ∧ (∀ x c, X.env.cells.lookup x = some c → c ≠ b) ∧ ∀ p ∈ X.pn ++ pins, p.1 ≠ b) : Inv X pins σ H' s' := by
  obtain ⟨h', g', d', t', o'⟩ := s'
  have e : o' = s.os := ho
  subst e
  exact I.call (g' := g') (t' := t') (d' := d') u hok hg hch
end

/-! ### the judgements -/
/-- an exception: its class, its own dict's address (where it has one), the abstract heap behind it -/
abbrev XK := Value → Option Addr → Hp → Prop
abbrev St := List (Option V)
abbrev VK := V → Hp → Prop
/-- an expression's reading; a test's; an argument list's -/
abbrev TE := St → Hp → VK → Prop
abbrev TT := St → Hp → (Bool → Hp → Prop) → Prop
abbrev TA := St → Hp → (List V → Hp → Prop) → Prop
/-- what is wanted behind a statement -/
structure Ends where
  nx : St → Hp → Prop
  rt : VK
  bk : St → Hp → Prop := fun _ _ => False
  ct : St → Hp → Prop := fun _ _ => False
abbrev TS := Ends → St → Hp → Prop

def EP (X : Cx) (pins : List (Addr × Obj)) (σ : St) (Q : VK) (u : Value) (s' : Shared) : Prop := ∃ v H', Inv X pins σ H' s' ∧ RelV v u ∧ Q v H'
def TP (X : Cx) (pins : List (Addr × Obj)) (σ : St) (Q : Bool → Hp → Prop) (b : Bool) (s' : Shared) : Prop := ∃ H', Inv X pins σ H' s' ∧ Q b H'
def AP (X : Cx) (pins : List (Addr × Obj)) (σ : St) (Q : List V → Hp → Prop) (us : List Value) (s' : Shared) : Prop := ∃ vs H', Inv X pins σ H' s' ∧ Vals vs us ∧ Q vs H'
def SP (X : Cx) (pins : List (Addr × Obj)) (D : Ends) (f : Flow) (s' : Shared) : Prop :=
  match f with
  | .next => ∃ σ' H', Inv X pins σ' H' s' ∧ D.nx σ' H'
  | .brk => ∃ σ' H', Inv X pins σ' H' s' ∧ D.bk σ' H'
  | .cont => ∃ σ' H', Inv X pins σ' H' s' ∧ D.ct σ' H'
  | .ret u => ∃ v σ' H', Inv X pins σ' H' s' ∧ RelV v u ∧ D.rt v H'

def PE (X : Cx) (e : Expr) (t : TE) : Prop :=
  ∀ (pins : List (Addr × Obj)) (s : Shared) (σ : St) (H : Hp) (Q : VK), Inv X pins σ H s → t σ H Q → wpAny (model X.prog X.w) X.A (eval e X.env) (EP X pins σ Q) X.xe s
def PT (X : Cx) (e : Expr) (t : TT) : Prop :=
  ∀ (pins : List (Addr × Obj)) (s : Shared) (σ : St) (H : Hp) (Q : Bool → Hp → Prop), Inv X pins σ H s → t σ H Q → wpAny (model X.prog X.w) X.A (isTrue e X.env (eval e X.env)) (TP X pins σ Q) X.xe s
/-- a test whatever its 'whole' is (and, or) -/
def PW (X : Cx) (e : Expr) (t : TT) : Prop :=
  ∀ (whole : Sem Value) (pins : List (Addr × Obj)) (s : Shared) (σ : St) (H : Hp) (Q : Bool → Hp → Prop), Inv X pins σ H s → t σ H Q → wpAny (model X.prog X.w) X.A (isTrue e X.env whole) (TP X pins σ Q) X.xe s
theorem PW.pt {X : Cx} {e : Expr} {t : TT} (h : PW X e t) : PT X e t := h _
/-- an argument list (no star), from the left -/
def PA (X : Cx) (es : List Expr) (t : TA) : Prop :=
  ∀ (pos : Pos) (pins : List (Addr × Obj)) (s : Shared) (σ : St) (H : Hp) (Q : List V → Hp → Prop), Inv X pins σ H s → t σ H Q → wpAny (model X.prog X.w) X.A (spliced (backTo pos (starEach es X.env))) (AP X pins σ Q) X.xe s
def PS (X : Cx) (st : Stmt) (t : TS) : Prop :=
  ∀ (pins : List (Addr × Obj)) (s : Shared) (σ : St) (H : Hp) (D : Ends), Inv X pins σ H s → t D σ H → wpAny (model X.prog X.w) X.A (exec st X.env) (SP X pins D) X.xe s
def PSs (X : Cx) (st : List Stmt) (t : TS) : Prop :=
  ∀ (pins : List (Addr × Obj)) (s : Shared) (σ : St) (H : Hp) (D : Ends), Inv X pins σ H s → t D σ H → wpAny (model X.prog X.w) X.A (execs st X.env) (SP X pins D) X.xe s
/-- weaken the end -/
theorem thn {α : Type} {t : Sem α} {Q Q' : α → Shared → Prop} {M : Model} {A : Around} {E : Value → Shared → Prop} {s : Shared} (h : wpAny M A t Q E s) (hQ : ∀ a s, Q a s → Q' a s) : wpAny M A t Q' E s := wpAny_mono h hQ fun _ _ x => x
end L2

namespace L2
open PySem PySem.Spec PyProof.Rows
section
variable {X : Cx}

/-- two expressions in a row -/
theorem bin {a b : Expr} {ta tb : TE} (ha : PE X a ta) (hb : PE X b tb) {pins : List (Addr × Obj)} {s : Shared} {σ : St} {H : Hp} {R : V → V → Hp → Prop} (I : Inv X pins σ H s) (h : ta σ H fun x H1 => tb σ H1 fun y H2 => R x y H2)
    {α : Type} {Q : α → Shared → Prop} {f : Value → Value → Sem α}
    (hf : ∀ v u s2 x y H2, Inv X pins σ H2 s2 → RelV x v → RelV y u → R x y H2 → wpAny (model X.prog X.w) X.A (f v u) Q X.xe s2) :
    wpAny (model X.prog X.w) X.A (eval a X.env) (fun v s₁ => wpAny (model X.prog X.w) X.A (eval b X.env) (fun u s₂ => wpAny (model X.prog X.w) X.A (f v u) Q X.xe s₂) X.xe s₁) X.xe s := by
  refine thn (ha pins s σ H _ I h) fun v s1 ⟨x, H1, I1, r1, q1⟩ => ?_
  refine thn (hb pins s1 σ H1 _ I1 q1) fun u s2 ⟨y, H2, I2, r2, q2⟩ => ?_
  exact hf v u s2 x y H2 I2 r1 r2 q2

/-! ### names and constants -/
def tVar (i : Nat) : TE := fun σ H Q => ∃ v, σ[i]? = some (some v) ∧ Q v H
def tC (v : V) : TE := fun _ H Q => Q v H
theorem pe_var {i : Nat} {x : Str} {pos : Pos} (hN : X.N[i]? = some x) (hv : Vis X.env.scope x) (hd : (x == ("__debug__" : Str)) = false := by decide) (hcd : (x == ("__classdict__" : Str)) = false := by decide) : PE X (.Name x pos) (tVar i) := by
  intro pins s σ H Q I h
  obtain ⟨v, e, h⟩ := h
  obtain ⟨m, hn, hl⟩ := I.loc
  obtain ⟨u, r, l⟩ := hl i x v hN e hv
  have fin : EP X pins σ Q u s := ⟨v, H, I, r, h⟩
  rcases l with ⟨hk, hm⟩ | ⟨hk, c, hc, hcell⟩
  · exact wpAny_Name (wpAny_loadName_local I.ok.kind hk hn hm fin) hd
  · rcases hk with hk | hk
    · exact wpAny_Name (wpAny_loadName_cell I.ok.kind hk hc hcell fin) hd
    · exact wpAny_Name (wpAny_loadName_free I.ok.kind hk hc hcell fin hcd) hd
theorem pe_int {i j pos} : PE X (.Constant (.int i) j pos) (tC (.int i)) := fun _ _ _ H _ I h => wpAny_Constant_int ⟨.int i, H, I.tok _, ⟨_, rfl⟩, h⟩
theorem pe_bl {b j pos} : PE X (.Constant (.bool b) j pos) (tC (.bl b)) := fun _ _ _ H _ I h => Constant_bool ⟨.bl b, H, I, rfl, h⟩
theorem pe_non {j pos} : PE X (.Constant .none j pos) (tC .non) := fun _ _ _ H _ I h => Constant_none ⟨.non, H, I, rfl, h⟩
theorem pe_str {x j pos} : PE X (.Constant (.str x) j pos) (tC (.str x)) := fun _ _ _ H _ I h => Calls.Constant_str ⟨.str x, H, I.tok _, ⟨_, rfl⟩, h⟩

/-- a global name of the def -/
def Gl (X : Cx) (x : Str) : Prop := X.env.kindOf x = some .globalImplicit
theorem ld_glob {E : Value → Shared → Prop} {pins : List (Addr × Obj)} {s : Shared} {σ : St} {H : Hp} {x : Str} {u : Value} {pos : Pos} {Q : Value → Shared → Prop} (I : Inv X pins σ H s) (hg : Gl X x) (hm : X.mg x = some u) (h : Q u s)
    (hd : (x == ("__debug__" : Str)) = false := by decide) : wpAny (model X.prog X.w) X.A (eval (.Name x pos) X.env) Q E s :=
  Calls.Name_function_global I.ok.kind hg (Calls.loadGlobal_global (by rw [I.ok.glob]; exact I.mod.glob.keeps I.bk) hm h) hd
theorem ld_blt {E : Value → Shared → Prop} {pins : List (Addr × Obj)} {s : Shared} {σ : St} {H : Hp} {x : Str} {u : Value} {pos : Pos} {Q : Value → Shared → Prop} (I : Inv X pins σ H s) (hg : Gl X x) (hm : X.mg x = none) (hv : bootBuiltins x = some u) (h : Q u s)
    (hn : x ≠ "__name__" := by decide) (hd : (x == ("__debug__" : Str)) = false := by decide) : wpAny (model X.prog X.w) X.A (eval (.Name x pos) X.env) Q E s := by
  obtain ⟨mb, h1, h2⟩ := I.mod.blt
  exact Calls.Name_function_global I.ok.kind hg (Calls.loadGlobal_builtin (by rw [I.ok.glob]; exact I.mod.glob.keeps I.bk) hm (by rw [I.ok.blt]; exact h1.keeps I.bk) ((h2 x hn).trans hv) h) hd
/-- a module's constant, a class, a function, as a value -/
theorem pe_glob {x : Str} {v : V} {u : Value} {pos : Pos} (hg : Gl X x) (hm : X.mg x = some u) (r : RelV v u) (hd : (x == ("__debug__" : Str)) = false := by decide) : PE X (.Name x pos) (tC v) :=
  fun _ _ _ H _ I h => ld_glob I hg hm ⟨v, H, I, r, h⟩ hd
theorem pe_bltn {x : Str} {v : V} {u : Value} {pos : Pos} (hg : Gl X x) (hm : X.mg x = none) (hv : bootBuiltins x = some u) (r : RelV v u) (hn : x ≠ "__name__" := by decide) (hd : (x == ("__debug__" : Str)) = false := by decide) : PE X (.Name x pos) (tC v) :=
  fun _ _ _ H _ I h => ld_blt I hg hm hv ⟨v, H, I, r, h⟩ hn hd

/-! ### arithmetic -/
/-- two ints -/
def t2I (ta tb : TE) (k : Int → Int → Hp → Prop) : St → Hp → Prop := fun σ H => ta σ H fun x H1 => tb σ H1 fun y H2 => ∃ i j, x = .int i ∧ y = .int j ∧ k i j H2
def tAdd (ta tb : TE) : TE := fun σ H Q => t2I ta tb (fun i j H2 => Q (.int (i + j)) H2) σ H
def tSub (ta tb : TE) : TE := fun σ H Q => t2I ta tb (fun i j H2 => Q (.int (i - j)) H2) σ H
/-- the left factor below 2^64 -/
def tMul (ta tb : TE) : TE := fun σ H Q => t2I ta tb (fun i j H2 => (-(2 ^ 64) < i ∧ i < 2 ^ 64) ∧ Q (.int (i * j)) H2) σ H
variable {a b : Expr} {ta tb : TE} {pos : Pos}
theorem pe_add (ha : PE X a ta) (hb : PE X b tb) : PE X (.BinOp a .Add b pos) (tAdd ta tb) := by
  intro pins s σ H Q I h
  refine wpAny_BinOp (bin ha hb I h fun v u s2 x y H2 I2 rx ry q => ?_)
  obtain ⟨i, j, rfl, rfl, q⟩ := q
  obtain ⟨t, rfl⟩ := rx
  obtain ⟨t', rfl⟩ := ry
  exact add_int ⟨.int _, H2, I2.tok _, ⟨_, rfl⟩, q⟩
theorem pe_sub (ha : PE X a ta) (hb : PE X b tb) : PE X (.BinOp a .Sub b pos) (tSub ta tb) := by
  intro pins s σ H Q I h
  refine wpAny_BinOp (bin ha hb I h fun v u s2 x y H2 I2 rx ry q => ?_)
  obtain ⟨i, j, rfl, rfl, q⟩ := q
  obtain ⟨t, rfl⟩ := rx
  obtain ⟨t', rfl⟩ := ry
  exact sub_int ⟨.int _, H2, I2.tok _, ⟨_, rfl⟩, q⟩
theorem pe_mul (ha : PE X a ta) (hb : PE X b tb) : PE X (.BinOp a .Mult b pos) (tMul ta tb) := by
  intro pins s σ H Q I h
  refine wpAny_BinOp (bin ha hb I h fun v u s2 x y H2 I2 rx ry q => ?_)
  obtain ⟨i, j, rfl, rfl, ⟨q1, q2⟩, q⟩ := q
  obtain ⟨t, rfl⟩ := rx
  obtain ⟨t', rfl⟩ := ry
  exact mul_int ⟨.int _, H2, I2.tok _, ⟨_, rfl⟩, q⟩ (.of_left (intBits_le_64 q1 q2))

/-! ### comparisons -/
def PC (X : Cx) (op : CmpOp) (a b : Expr) (t : TE) : Prop :=
  ∀ (pins : List (Addr × Obj)) (s : Shared) (σ : St) (H : Hp) (Q : VK), Inv X pins σ H s → t σ H Q →
    wpAny (model X.prog X.w) X.A (eval a X.env) (fun v s₁ => wpAny (model X.prog X.w) X.A (eval b X.env) (fun u s₂ => wpAny (model X.prog X.w) X.A (compareOp op v u) (EP X pins σ Q) X.xe s₂) X.xe s₁) X.xe s
theorem nobehind (b : Expr) {op : CmpOp} (h : op ≠ .In) (h2 : op ≠ .NotIn) : behindInMarks op b = false := by
  have e1 : (op == CmpOp.In) = false := by cases op <;> first | rfl | exact absurd rfl h
  have e2 : (op == CmpOp.NotIn) = false := by cases op <;> first | rfl | exact absurd rfl h2
  cases b <;> simp [behindInMarks, e1, e2]
def tCmp (p : Int → Int → Bool) (ta tb : TE) : TE := fun σ H Q => t2I ta tb (fun i j H2 => Q (.bl (p i j)) H2) σ H
abbrev tLt : TE → TE → TE := tCmp fun i j => decide (i < j)
abbrev tLe : TE → TE → TE := tCmp fun i j => decide (i ≤ j)
abbrev tGt : TE → TE → TE := tCmp fun i j => decide (j < i)
abbrev tGe : TE → TE → TE := tCmp fun i j => decide (j ≤ i)
abbrev tEqI : TE → TE → TE := tCmp fun i j => decide (i = j)
abbrev tNeI : TE → TE → TE := tCmp fun i j => !decide (i = j)
/-- a comparison of two ints, by its rule -/
theorem pc_int {op : CmpOp} {p : Int → Int → Bool} (ha : PE X a ta) (hb : PE X b tb)
    (rule : ∀ (i j : Int) (t u : Tok) (Q : Value → Shared → Prop) (s : Shared), Q (.bool (p i j)) s → wpAny (model X.prog X.w) X.A (compareOp op (.int i t) (.int j u)) Q X.xe s) : PC X op a b (tCmp p ta tb) := by
  intro pins s σ H Q I h
  refine bin ha hb I h fun v u s2 x y H2 I2 rx ry q => ?_
  obtain ⟨i, j, rfl, rfl, q⟩ := q
  obtain ⟨t, rfl⟩ := rx
  obtain ⟨t', rfl⟩ := ry
  exact rule i j t t' _ s2 ⟨.bl _, H2, I2, rfl, q⟩
theorem pc_lt (ha : PE X a ta) (hb : PE X b tb) : PC X .Lt a b (tLt ta tb) := pc_int ha hb fun _ _ _ _ _ _ h => lt_int h
theorem pc_le (ha : PE X a ta) (hb : PE X b tb) : PC X .LtE a b (tLe ta tb) := pc_int ha hb fun _ _ _ _ _ _ h => le_int h
theorem pc_gt (ha : PE X a ta) (hb : PE X b tb) : PC X .Gt a b (tGt ta tb) := pc_int ha hb fun _ _ _ _ _ _ h => gt_int h
theorem pc_ge (ha : PE X a ta) (hb : PE X b tb) : PC X .GtE a b (tGe ta tb) := pc_int ha hb fun _ _ _ _ _ _ h => ge_int h
theorem pc_eqI (ha : PE X a ta) (hb : PE X b tb) : PC X .Eq a b (tEqI ta tb) := pc_int ha hb fun _ _ _ _ _ _ h => eq_int (by rw [Bool.beq_eq_decide_eq]; exact h)
theorem pc_neI (ha : PE X a ta) (hb : PE X b tb) : PC X .NotEq a b (tNeI ta tb) := pc_int ha hb fun _ _ _ _ _ _ h => ne_int (by rw [bne, Bool.beq_eq_decide_eq]; exact h)
/-- is None -/
def tIsN (ta : TE) : TE := fun σ H Q => ta σ H fun x H1 => Q (.bl (decide (x = .non))) H1
def tNotN (ta : TE) : TE := fun σ H Q => ta σ H fun x H1 => Q (.bl (!decide (x = .non))) H1
theorem RelV.none_iff {x : V} {v : Value} (r : RelV x v) : (v == Value.none) = decide (x = .non) := by
  cases x with
  | non => cases r; rfl
  | bl _ => cases r; rfl
  | int _ => obtain ⟨t, rfl⟩ := r; rfl
  | str _ => obtain ⟨t, rfl⟩ := r; rfl
  | byt _ => obtain ⟨t, rfl⟩ := r; rfl
  | flt _ => obtain ⟨t, rfl⟩ := r; rfl
  | ref _ => cases r; rfl
  | ty _ => cases r; rfl
theorem pc_isN {j pos'} (ha : PE X a ta) : PC X .Is a (.Constant .none j pos') (tIsN ta) := by
  intro pins s σ H Q I h
  refine thn (ha pins s σ H _ I h) fun v s1 ⟨x, H1, I1, r1, q1⟩ => ?_
  exact Constant_none (is_none_gen ⟨.bl _, H1, I1, by rw [r1.none_iff]; rfl, q1⟩)
theorem pc_notN {j pos'} (ha : PE X a ta) : PC X .IsNot a (.Constant .none j pos') (tNotN ta) := by
  intro pins s σ H Q I h
  refine thn (ha pins s σ H _ I h) fun v s1 ⟨x, H1, I1, r1, q1⟩ => ?_
  exact Constant_none (isnot_none_gen ⟨.bl _, H1, I1, by rw [r1.none_iff]; rfl, q1⟩)
/-- a comparison as a value, as a test -/
def tB (t : TE) : TT := fun σ H Q => t σ H fun x H1 => ∃ c, x = .bl c ∧ Q c H1
theorem pe_cmp {op : CmpOp} {t : TE} (h : PC X op a b t) (h1 : behindInMarks op b = false := by first | exact nobehind _ (by decide) (by decide) | rfl) : PE X (.Compare a [op] [b] pos) t := fun pins s σ H Q I hw => wpAny_Compare1 (h pins s σ H Q I hw) h1
theorem pt_cmp {op : CmpOp} {t : TE} (h : PC X op a b t) (h1 : behindInMarks op b = false := by first | exact nobehind _ (by decide) (by decide) | rfl) : PT X (.Compare a [op] [b] pos) (tB t) := by
  intro pins s σ H Q I hw
  refine wpAny_isTrue_Compare1 (thn (h pins s σ H _ I hw) fun v s1 h1 => thn h1 fun u s2 h2 => thn h2 fun c s3 ⟨x, H1, I1, r1, q1⟩ => ?_) h1
  obtain ⟨d, rfl, q⟩ := q1
  cases r1
  exact wpAny_truthy_bool ⟨H1, I1, q⟩
/-- an expression whose value is a bool, as a test -/
theorem pt_val {e : Expr} {t : TE} (h : PE X e t) (he : ∀ whole, isTrue e X.env whole = (do let v ← whole; standAt e.pos; holding [v] (truthy v)) := by intro _; rfl) : PT X e (tB t) := by
  intro pins s σ H Q I hw
  refine isTrue_plain (thn (h pins s σ H _ I hw) fun v s1 ⟨x, H1, I1, r1, q1⟩ => ?_) (he _)
  obtain ⟨d, rfl, q⟩ := q1
  cases r1
  exact wpAny_truthy_bool ⟨H1, I1, q⟩

/-! ### and, or, not -/
variable {tA tB' : TT} {rest : List Expr}
def tAnd (t u : TT) : TT := fun σ H Q => t σ H fun c H1 => if c = true then u σ H1 Q else Q false H1
def tOr (t u : TT) : TT := fun σ H Q => t σ H fun c H1 => if c = true then Q true H1 else u σ H1 Q
def tNot (t : TT) : TT := fun σ H Q => t σ H fun c H1 => Q (!c) H1
theorem pw_and1 (ha : PT X a tA) : PW X (.BoolOp .And [a] pos) tA := by
  intro wh pins s σ H Q I h
  refine isTrue_and (thn (ha pins s σ H Q I h) fun c s1 e => ?_)
  cases c with
  | true => exact isTrue_and_nil e
  | false => exact e
theorem pw_or1 (ha : PT X a tA) : PW X (.BoolOp .Or [a] pos) tA := by
  intro wh pins s σ H Q I h
  refine isTrue_or (thn (ha pins s σ H Q I h) fun c s1 e => ?_)
  cases c with
  | false => exact isTrue_or_nil e
  | true => exact e
theorem pw_and (ha : PT X a tA) (hb : PW X (.BoolOp .And (b :: rest) pos) tB') : PW X (.BoolOp .And (a :: b :: rest) pos) (tAnd tA tB') := by
  intro wh pins s σ H Q I h
  refine isTrue_and (thn (ha pins s σ H _ I h) fun c s1 ⟨H1, I1, q1⟩ => ?_)
  cases c with
  | true => exact hb wh pins s1 σ H1 Q I1 q1
  | false => exact ⟨H1, I1, q1⟩
theorem pw_or (ha : PT X a tA) (hb : PW X (.BoolOp .Or (b :: rest) pos) tB') : PW X (.BoolOp .Or (a :: b :: rest) pos) (tOr tA tB') := by
  intro wh pins s σ H Q I h
  refine isTrue_or (thn (ha pins s σ H _ I h) fun c s1 ⟨H1, I1, q1⟩ => ?_)
  cases c with
  | true => exact ⟨H1, I1, q1⟩
  | false => exact hb wh pins s1 σ H1 Q I1 q1
theorem pt_not (ha : PT X a tA) : PT X (.UnaryOp .Not a pos) (tNot tA) := by
  intro pins s σ H Q I h
  exact isTrue_not (ha pins s σ H (fun c H1 => Q (!c) H1) I h)
/-- .. as values (bools) -/
def tAndV (ta tb : TE) : TE := fun σ H Q => ta σ H fun x H1 => ∃ c, x = .bl c ∧ if c = true then tb σ H1 Q else Q (.bl false) H1
def tOrV (ta tb : TE) : TE := fun σ H Q => ta σ H fun x H1 => ∃ c, x = .bl c ∧ if c = true then Q (.bl true) H1 else tb σ H1 Q
def tNotV (ta : TE) : TE := fun σ H Q => ta σ H fun x H1 => ∃ c, x = .bl c ∧ Q (.bl (!c)) H1
theorem pe_one {op} {t : TE} (h : PE X a t) : PE X (.BoolOp op [a] pos) t := fun pins s σ H Q I hw => BoolOp_one (h pins s σ H Q I hw)
theorem pe_and (ha : PE X a ta) (hb : PE X (.BoolOp .And (b :: rest) pos) tb) : PE X (.BoolOp .And (a :: b :: rest) pos) (tAndV ta tb) := by
  intro pins s σ H Q I h
  refine BoolOp_and (thn (ha pins s σ H _ I h) fun v s1 ⟨x, H1, I1, r1, q1⟩ => ?_)
  obtain ⟨c, rfl, q1⟩ := q1
  cases r1
  refine wpAny_truthy_bool ?_
  cases c with
  | true => exact hb pins s1 σ H1 Q I1 q1
  | false => exact ⟨.bl false, H1, I1, rfl, q1⟩
theorem pe_or (ha : PE X a ta) (hb : PE X (.BoolOp .Or (b :: rest) pos) tb) : PE X (.BoolOp .Or (a :: b :: rest) pos) (tOrV ta tb) := by
  intro pins s σ H Q I h
  refine BoolOp_or (thn (ha pins s σ H _ I h) fun v s1 ⟨x, H1, I1, r1, q1⟩ => ?_)
  obtain ⟨c, rfl, q1⟩ := q1
  cases r1
  refine wpAny_truthy_bool ?_
  cases c with
  | false => exact hb pins s1 σ H1 Q I1 q1
  | true => exact ⟨.bl true, H1, I1, rfl, q1⟩
theorem pe_not (ha : PE X a ta) : PE X (.UnaryOp .Not a pos) (tNotV ta) := by
  intro pins s σ H Q I h
  refine UnaryOp_ (thn (ha pins s σ H _ I h) fun v s1 ⟨x, H1, I1, r1, q1⟩ => ?_)
  obtain ⟨c, rfl, q1⟩ := q1
  cases r1
  exact not_of (wpAny_truthy_bool ⟨.bl (!c), H1, I1, rfl, q1⟩)
/-- a if t else b -/
def tIf (t : TT) (ta tb : TE) : TE := fun σ H Q => t σ H fun c H1 => if c = true then ta σ H1 Q else tb σ H1 Q
theorem pe_ifExp {c : Expr} (hc : PT X c tA) (ha : PE X a ta) (hb : PE X b tb) : PE X (.IfExp c a b pos) (tIf tA ta tb) := by
  intro pins s σ H Q I h
  refine wpAny_IfExp (thn (hc pins s σ H _ I h) fun d s1 ⟨H1, I1, q1⟩ => ?_)
  cases d with
  | true => exact ha pins s1 σ H1 Q I1 q1
  | false => exact hb pins s1 σ H1 Q I1 q1
end
end L2

namespace L2
open PySem PySem.Spec PyProof.Rows

/-! ### a list, a tuple that is read: tracked, frozen, or an object of the module -/
def SqL (K : PySem.W.Frag) (H : Hp) (a : Addr) (xs : List V) : Prop :=
  Rd H a (.lst xs) ∨
    ∃ (o : Obj) (its : Array Value) (n : Nat), K.lookup a = some o ∧ o.cls = .type "list" ∧ o.dict = none ∧ o.data = .seq its n ∧ its.size ≤ sizeLine ∧ Vals xs its.toList
def SqT (K : PySem.W.Frag) (H : Hp) (a : Addr) (xs : List V) : Prop :=
  Rd H a (.tup xs) ∨
    ∃ (o : Obj) (its : Array Value) (n : Nat), K.lookup a = some o ∧ o.cls = .type "tuple" ∧ o.data = .seq its n ∧ its.size ≤ sizeLine ∧ Vals xs its.toList
def absV : Value → Option V
  | .none => some .non
  | .bool b => some (.bl b)
  | .int i _ => some (.int i)
  | .str x _ => some (.str x)
  | .bytes b _ => some (.byt b)
  | .float b _ => some (.flt b)
  | .ref a => some (.ref a)
  | .type n => some (.ty n)
  | _ => none
theorem RelV.abs {x : V} {u : Value} (r : RelV x u) : absV u = some x := by
  cases x with
  | non => cases r; rfl
  | bl _ => cases r; rfl
  | int _ => obtain ⟨t, rfl⟩ := r; rfl
  | str _ => obtain ⟨t, rfl⟩ := r; rfl
  | byt _ => obtain ⟨t, rfl⟩ := r; rfl
  | flt _ => obtain ⟨t, rfl⟩ := r; rfl
  | ref _ => cases r; rfl
  | ty _ => cases r; rfl
theorem RelV.inj {x y : V} {u : Value} (r : RelV x u) (q : RelV y u) : x = y := Option.some.inj (r.abs.symm.trans q.abs)
theorem Vals.inj : ∀ {xs ys : List V} {us : List Value}, Vals xs us → Vals ys us → xs = ys
  | _, _, _, .nil, .nil => rfl
  | _, _, _, .cons r t, .cons r' t' => by rw [r.inj r', Vals.inj t t']
section
variable {X : Cx} {pins : List (Addr × Obj)} {σ : St} {H : Hp} {s : Shared} {a : Addr} {xs ys : List V}
theorem SqL.of {K : PySem.W.Frag} (h : H a = some (.lst xs)) : SqL K H a xs := .inl (.inl h)
theorem SqT.of {K : PySem.W.Frag} (h : H a = some (.tup xs)) : SqT K H a xs := .inl (.inl h)
theorem Inv.list (I : Inv X pins σ H s) (h : SqL X.K H a xs) : ∃ its : List Value, Vals xs its ∧ PlainL s.heap a its.toArray ∧ xs.length ≤ sizeLine := by
  rcases h with h | ⟨o, its, n, hk, hc, hd, hs, hz, r⟩
  · obtain ⟨z, its, n, r, e⟩ := h.ok I.hok
    exact ⟨its, r, ⟨_, n, e, rfl, rfl, rfl⟩, z⟩
  · refine ⟨its.toList, r, ⟨o, n, I.kIn a o hk, hc, hd, by simpa using hs⟩, ?_⟩
    have e := r.length
    simp only [Array.length_toList] at e
    omega
theorem Inv.tuple (I : Inv X pins σ H s) (h : SqT X.K H a xs) : ∃ its : List Value, Vals xs its ∧ IsTup s.heap a its.toArray ∧ xs.length ≤ sizeLine := by
  rcases h with h | ⟨o, its, n, hk, hc, hs, hz, r⟩
  · obtain ⟨z, its, r, p⟩ := h.ok I.hok
    exact ⟨its, r, p, z⟩
  · refine ⟨its.toList, r, ⟨o, I.kIn a o hk, hc, n, by simpa using hs⟩, ?_⟩
    have e := r.length
    simp only [Array.length_toList] at e
    omega
theorem Inv.list_inj (I : Inv X pins σ H s) (h : SqL X.K H a xs) (h' : SqL X.K H a ys) : xs = ys := by
  obtain ⟨its, r, ⟨o, n, e, _, _, d⟩, _⟩ := I.list h
  obtain ⟨its', r', ⟨o', n', e', _, _, d'⟩, _⟩ := I.list h'
  rw [e] at e'; cases e'
  rw [d] at d'
  injection d' with d1 _
  have : its = its' := by simpa using congrArg Array.toList d1
  subst this
  exact r.inj r'
theorem Inv.tuple_inj (I : Inv X pins σ H s) (h : SqT X.K H a xs) (h' : SqT X.K H a ys) : xs = ys := by
  obtain ⟨its, r, ⟨o, e, _, n, d⟩, _⟩ := I.tuple h
  obtain ⟨its', r', ⟨o', e', _, n', d'⟩, _⟩ := I.tuple h'
  rw [e] at e'; cases e'
  rw [d] at d'
  injection d' with d1 _
  have : its = its' := by simpa using congrArg Array.toList d1
  subst this
  exact r.inj r'
end

/-! ### another wish about exceptions -/
abbrev Cx.wish (X : Cx) (E : Value → Shared → Prop) : Cx := { X with xe := E }
/-- no exception leaves -/
abbrev Cx.nox (X : Cx) : Cx := X.wish fun _ _ => False
theorem Cx.Ok.wish {X : Cx} (ok : X.Ok) (E : Value → Shared → Prop) : (X.wish E).Ok :=
  ⟨ok.mod, ok.kind, ok.glob, ok.blt, ok.above, ok.inj, ok.has, ok.cab, ok.hd, ok.frames, ok.stk, ok.exf, ok.bs, ok.bsz, ok.noex, ok.exfs, ok.funs, ok.frf⟩
theorem Cx.Ok.unwish {X : Cx} {E : Value → Shared → Prop} (ok : (X.wish E).Ok) : X.Ok :=
  ⟨ok.mod, ok.kind, ok.glob, ok.blt, ok.above, ok.inj, ok.has, ok.cab, ok.hd, ok.frames, ok.stk, ok.exf, ok.bs, ok.bsz, ok.noex, ok.exfs, ok.funs, ok.frf⟩
section
variable {X : Cx} {pins : List (Addr × Obj)} {σ : St} {H : Hp} {s : Shared} {E : Value → Shared → Prop}
theorem Inv.wish (I : Inv X pins σ H s) (E : Value → Shared → Prop) : Inv (X.wish E) pins σ H s := ⟨I.ok.wish E, I.os, I.bare, I.base, I.loc, I.cell, I.free, I.freeC, I.pin, I.hok, I.len⟩
theorem Inv.unwish (I : Inv (X.wish E) pins σ H s) : Inv X pins σ H s := ⟨I.ok.unwish, I.os, I.bare, I.base, I.loc, I.cell, I.free, I.freeC, I.pin, I.hok, I.len⟩
theorem SP.unwish {D : Ends} {f : Flow} {s' : Shared} (h : SP (X.wish E) pins D f s') : SP X pins D f s' := by
  cases f with
  | next => obtain ⟨σ', H', I, q⟩ := h; exact ⟨σ', H', I.unwish, q⟩
  | brk => obtain ⟨σ', H', I, q⟩ := h; exact ⟨σ', H', I.unwish, q⟩
  | cont => obtain ⟨σ', H', I, q⟩ := h; exact ⟨σ', H', I.unwish, q⟩
  | ret u => obtain ⟨v, σ', H', I, r, q⟩ := h; exact ⟨v, σ', H', I.unwish, r, q⟩
theorem PE.nox {e : Expr} {t : TE} (h : PE X.nox e t) : PE X e t := fun pins s σ H Q I hw =>
  wpAny_mono (h pins s σ H Q (I.wish _) hw) (fun _ _ ⟨v, H', I', r, q⟩ => ⟨v, H', I'.unwish, r, q⟩) fun _ _ z => False.elim z
theorem PT.nox {e : Expr} {t : TT} (h : PT X.nox e t) : PT X e t := fun pins s σ H Q I hw =>
  wpAny_mono (h pins s σ H Q (I.wish _) hw) (fun _ _ ⟨H', I', q⟩ => ⟨H', I'.unwish, q⟩) fun _ _ z => False.elim z
theorem PSs.nox {st : List Stmt} {t : TS} (h : PSs X.nox st t) : PSs X st t := fun pins s σ H D I hw =>
  wpAny_mono (h pins s σ H D (I.wish _) hw) (fun _ _ q => q.unwish) fun _ _ z => False.elim z
end

/-! ### blocks and small statements -/
section
variable {X : Cx} {st : Stmt} {rest : List Stmt} {t u : TS} {e : Expr} {te : TE} {pos : Pos}
def tNext : TS := fun D σ H => D.nx σ H
def tSeq (t u : TS) : TS := fun D σ H => t { D with nx := u D } σ H
theorem pss_nil : PSs X [] tNext := fun _ _ σ H _ I h => wpAny_execs_nil ⟨σ, H, I, h⟩
theorem pss_cons (h1 : PS X st t) (h2 : PSs X rest u) : PSs X (st :: rest) (tSeq t u) := by
  intro pins s σ H D I h
  refine wpAny_execs_cons (thn (h1 pins s σ H { D with nx := u D } I h) fun f s1 q => ?_)
  cases f with
  | next =>
    obtain ⟨σ', H', I', q⟩ := q
    exact h2 pins s1 σ' H' D I' q
  | ret v => exact q
  | brk => exact q
  | cont => exact q
theorem pss_one (h1 : PS X st t) : PSs X [st] t := by
  intro pins s σ H D I h
  refine wpAny_execs_cons (thn (h1 pins s σ H D I h) fun f s1 q => ?_)
  cases f with
  | next => exact wpAny_execs_nil q
  | ret v => exact q
  | brk => exact q
  | cont => exact q
def tBreak : TS := fun D σ H => D.bk σ H
def tCont : TS := fun D σ H => D.ct σ H
theorem ps_pass : PS X (.Pass pos) tNext := fun _ _ σ H _ I h => wpAny_Pass ⟨σ, H, I, h⟩
theorem ps_break : PS X (.Break pos) tBreak := fun _ _ σ H _ I h => wpAny_Break ⟨σ, H, I, h⟩
theorem ps_continue : PS X (.Continue pos) tCont := fun _ _ σ H _ I h => wpAny_Continue ⟨σ, H, I, h⟩
/-- in a def's body nothing is shown -/
theorem Inv.quiet {pins : List (Addr × Obj)} {σ : St} {H : Hp} {s : Shared} (I : Inv X pins σ H s) : interactive X.env = false := by simp [interactive, I.ok.kind]
/-- a docstring -/
theorem ps_doc {x j pos pos'} : PS X (.Expr (.Constant (.str x) j pos) pos') tNext := fun _ s σ H _ I h => wpAny_Expr (Calls.Constant_str (show SP X _ _ .next { s with toks := s.toks + 1 } from ⟨σ, H, I.tok _, h⟩)) I.quiet
/-- an expression whose value is dropped -/
def tDrop (te : TE) : TS := fun D σ H => te σ H fun _ H1 => D.nx σ H1
theorem ps_expr (he : PE X e te) (hs : swapsWith e none pos.line X.env = pure false := by rfl) : PS X (.Expr e pos) (tDrop te) := by
  intro pins s σ H D I h
  exact wpAny_Expr_any (thn (he pins s σ H _ I h) fun v s1 ⟨x, H1, I1, r1, q1⟩ => ⟨σ, H1, I1, q1⟩) I.quiet hs
def tRet (te : TE) : TS := fun D σ H => te σ H D.rt
theorem ps_ret (he : PE X e te) : PS X (.Return (some e) pos) (tRet te) := by
  intro pins s σ H D I h
  exact wpAny_Return_some (thn (he pins s σ H _ I h) fun v s1 ⟨x, H1, I1, r1, q1⟩ => ⟨x, σ, H1, I1, r1, q1⟩)
def tRetN : TS := fun D _ H => D.rt .non H
theorem ps_retN : PS X (.Return none pos) tRetN := fun _ _ σ H _ I h => wpAny_Return_none ⟨.non, σ, H, I, rfl, h⟩
def tIfS (c : TT) (t u : TS) : TS := fun D σ H => c σ H fun b H1 => if b = true then t D σ H1 else u D σ H1
theorem ps_if {c : Expr} {a b : List Stmt} {tc : TT} (hc : PT X c tc) (ha : PSs X a t) (hb : PSs X b u) : PS X (.If c a b pos) (tIfS tc t u) := by
  intro pins s σ H D I h
  refine wpAny_If (thn (hc pins s σ H _ I h) fun d s1 ⟨H1, I1, q1⟩ => ?_)
  cases d with
  | true => exact ha pins s1 σ H1 D I1 q1
  | false => exact hb pins s1 σ H1 D I1 q1
/-- code that the proof never comes to -/
def tNever : TS := fun _ _ _ => False
theorem ps_never : PS X st tNever := fun _ _ _ _ _ _ h => h.elim
theorem pss_never {sts : List Stmt} : PSs X sts tNever := fun _ _ _ _ _ _ h => h.elim
end

/-! ### targets -/
abbrev TG := V → St → Hp → (St → Hp → Prop) → Prop
abbrev TGs := List V → St → Hp → (St → Hp → Prop) → Prop
def PG (X : Cx) (target : Expr) (t : TG) : Prop :=
  ∀ (pins : List (Addr × Obj)) (s : Shared) (σ : St) (H : Hp) (v : V) (u : Value) (Q : St → Hp → Prop), Inv X pins σ H s → RelV v u → t v σ H Q →
    wpAny (model X.prog X.w) X.A (assign target X.env u) (fun _ s' => ∃ σ' H', Inv X pins σ' H' s' ∧ Q σ' H') X.xe s
/-- several targets, one after another -/
def PGs (X : Cx) (ts : List Expr) (t : TGs) : Prop :=
  ∀ (pins : List (Addr × Obj)) (s : Shared) (σ : St) (H : Hp) (vs : List V) (us : List Value) (Q : St → Hp → Prop), Inv X pins σ H s → Vals vs us → t vs σ H Q →
    wpAny (model X.prog X.w) X.A (assignInOrder ((assignEach ts X.env).map (·.2)) us) (fun _ s' => ∃ σ' H', Inv X pins σ' H' s' ∧ Q σ' H') X.xe s
/-- o[i] = v, by values -/
abbrev TSet := V → V → V → Hp → (Hp → Prop) → Prop
def PSet (X : Cx) (t : TSet) : Prop :=
  ∀ (pins : List (Addr × Obj)) (s : Shared) (σ : St) (H : Hp) (o i v : V) (ov iv u : Value) (Q : Hp → Prop), Inv X pins σ H s → RelV o ov → RelV i iv → RelV v u → t o i v H Q →
    wpAny (model X.prog X.w) X.A (setItem ov iv u) (fun _ s' => ∃ H', Inv X pins σ H' s' ∧ Q H') X.xe s
/-- a op= b, by values -/
abbrev TIp := V → V → Hp → VK → Prop
def PIp (X : Cx) (op : Operator) (t : TIp) : Prop :=
  ∀ (pins : List (Addr × Obj)) (s : Shared) (σ : St) (H : Hp) (x y : V) (v u : Value) (Q : VK), Inv X pins σ H s → RelV x v → RelV y u → t x y H Q →
    wpAny (model X.prog X.w) X.A (inplaceOp op v u) (EP X pins σ Q) X.xe s
section
variable {X : Cx} {pos : Pos}
def gName (i : Nat) : TG := fun v σ H Q => Q (σ.set i (some v)) H
theorem pg_name {i : Nat} {x : Str} (hN : X.N.Nodup) (hi : X.N[i]? = some x) (hx : Loc X.env.scope x) (hf : X.fn x = true ∨ X.env.scope.names.lookup x = some .local := by first | exact .inl rfl | exact .inr rfl | assumption) : PG X (.Name x pos) (gName i) := by
  intro pins s σ H v u Q I r h
  exact wpAny_assign_Name (store_ok I hN hi hx r (fun s' I' => ⟨_, H, I', h⟩) hf)
def gNil : TGs := fun vs σ H Q => vs = [] ∧ Q σ H
def gCons (t : TG) (u : TGs) : TGs := fun vs σ H Q => ∃ v r, vs = v :: r ∧ t v σ H fun σ' H' => u r σ' H' Q
theorem pgs_nil : PGs X [] gNil := by
  intro pins s σ H vs us Q I r h
  obtain ⟨e, h⟩ := h
  subst e
  cases r
  exact assignInOrder_nil ⟨σ, H, I, h⟩
theorem pgs_cons {e : Expr} {es : List Expr} {t : TG} {u : TGs} (h1 : PG X e t) (h2 : PGs X es u)
    (hs : (assignEach (e :: es) X.env).map (·.2) = assign e X.env :: (assignEach es X.env).map (·.2) := by rfl) : PGs X (e :: es) (gCons t u) := by
  intro pins s σ H vs us Q I r h
  obtain ⟨v, vr, e1, h⟩ := h
  subst e1
  cases r with
  | cons r rr =>
    rw [hs]
    refine assignInOrder_cons (thn (h1 pins s σ H _ _ _ I r h) fun _ s1 ⟨σ1, H1, I1, q1⟩ => ?_)
    exact h2 pins s1 σ1 H1 _ _ Q I1 rr q1
/-- (a, b, ..) = a tuple of that length -/
def gTup (K : PySem.W.Frag) (n : Nat) (t : TGs) : TG := fun v σ H Q => ∃ a xs, v = .ref a ∧ SqT K H a xs ∧ xs.length = n ∧ t xs σ H Q
theorem pg_tup {es : List Expr} {k : Nat} {t : TGs} {n : Nat} (hc : X.calm = true) (h : PGs X es t)
    (hn : (assignEach es X.env).length = n := by rfl) (hst : (assignEach es X.env).findIdx? (·.1) = none := by rfl) : PG X (.Tuple es k pos) (gTup X.K n t) := by
  intro pins s σ H v u Q I r hw
  obtain ⟨a, xs, e1, hq, hl, hw⟩ := hw
  subst e1
  cases r
  obtain ⟨its, rv, ht, hz⟩ := I.tuple hq
  refine assign_Tuple_tuple (I.ok.hd hc) ht (by simp [hn, ← hl, rv.length]) hst fun h' hx => ?_
  have I1 : Inv X pins σ H { s with heap := h' } := I.kept (t' := s.toks) fun b o e => hx b o (Nat.ne_of_lt (Heap.lt_size e)) e
  exact h pins _ σ H xs _ Q I1 (by simpa using rv) hw
/-- o[i] = .. -/
def gSub (to ti : TE) (t : TSet) : TG := fun v σ H Q => to σ H fun o H1 => ti σ H1 fun i H2 => t o i v H2 fun H3 => Q σ H3
theorem pg_sub {o i : Expr} {to ti : TE} {t : TSet} (ho : PE X o to) (hi : PE X i ti) (hs : PSet X t)
    (ha : ∀ v, assign (.Subscript o i pos) X.env v = (do
      let ov ← holding [v] (eval o X.env)
      let iv ← holding [v, ov] (eval i X.env)
      standAt pos
      holding [v, ov, iv] (setItem ov iv v)
      release [v, ov, iv] []) := by intro _; rfl) : PG X (.Subscript o i pos) (gSub to ti t) := by
  intro pins s σ H v u Q I r h
  rw [ha]
  refine wpAny_bind (wpAny_holding (thn (ho pins s σ H _ I h) fun ov s1 ⟨x, H1, I1, r1, q1⟩ => ?_))
  refine wpAny_bind (wpAny_holding (thn (hi pins s1 σ H1 _ I1 q1) fun iv s2 ⟨y, H2, I2, r2, q2⟩ => ?_))
  refine wpAny_bind (wpAny_standAt (wpAny_bind (wpAny_holding (thn (hs pins s2 σ H2 x y v ov iv u _ I2 r1 r2 r q2) fun _ s3 ⟨H3, I3, q3⟩ => ?_))))
  exact wpAny_release ⟨σ, H3, I3, q3⟩
/-- target = value -/
def tAsg (te : TE) (g : TG) : TS := fun D σ H => te σ H fun x H1 => g x σ H1 D.nx
theorem ps_asg {tg e : Expr} {te : TE} {g : TG} (he : PE X e te) (hg : PG X tg g) (hs : swapsWithSole [tg] e pos.line X.env = pure false := by rfl) (hw : swappedStores [tg] e X.env = pure none := by rfl)
    (h1 : (assignEach [tg] X.env).map (·.2) = [assign tg X.env] := by rfl) : PS X (.Assign [tg] e pos) (tAsg te g) := by
  intro pins s σ H D I h
  refine wpAny_Assign_stores (thn (he pins s σ H _ I h) fun v s1 ⟨x, H1, I1, r1, q1⟩ => ?_) hs hw
  rw [h1]
  exact thn (hg pins s1 σ H1 x v _ I1 r1 q1) fun _ s2 q => q
/-- name = value -/
theorem ps_set {i : Nat} {x : Str} {e : Expr} {te : TE} {pos' : Pos} (hN : X.N.Nodup) (hi : X.N[i]? = some x) (hx : Loc X.env.scope x) (he : PE X e te) (hs : swapsWith e (some (.Name x pos')) pos.line X.env = pure false := by rfl) (hf : X.fn x = true ∨ X.env.scope.names.lookup x = some .local := by first | exact .inl rfl | exact .inr rfl | assumption) :
    PS X (.Assign [.Name x pos'] e pos) (tAsg te (gName i)) := by
  intro pins s σ H D I h
  refine wpAny_Assign_Name (thn (he pins s σ H _ I h) fun v s1 ⟨y, H1, I1, r1, q1⟩ => ?_) hs
  exact store_ok I1 hN hi hx r1 (fun s2 I2 => ⟨_, H1, I2, q1⟩) hf
/-- a, b = x, y with plain local names: stored from the right; the pair itself is not tracked (the opening rows as in PyProof/Rows/TupAssign.lean:23) -/
def tPar (i j : Nat) (ta : TA) : TS := fun D σ H => ta σ H fun vs H1 => ∃ v w, vs = [v, w] ∧ D.nx ((σ.set i (some v)).set j (some w)) H1
theorem ps_par {i j : Nat} {x y : Str} {a b : Expr} {ta : TA} {px py pt : Pos} {kt k2 pt2} (hc : X.calm = true) (hN : X.N.Nodup) (hi : X.N[i]? = some x) (hj : X.N[j]? = some y) (hij : i ≠ j)
    (hx : X.env.scope.names.lookup x = some .local) (hy : X.env.scope.names.lookup y = some .local) (ha : PA X [a, b] ta)
    (hw : swappedStores [.Tuple [.Name x px, .Name y py] kt pt] (.Tuple [a, b] k2 pt2) X.env = pure (some [x, y]))
    (hs : swapsWithSole [.Tuple [.Name x px, .Name y py] kt pt] (.Tuple [a, b] k2 pt2) pos.line X.env = pure false := by rfl) :
    PS X (.Assign [.Tuple [.Name x px, .Name y py] kt pt] (.Tuple [a, b] k2 pt2) pos) (tPar i j ta) := by
  intro pins s σ H D I h
  rw [exec_Assign_arm]
  refine wpAny_bind (wpAny_standAt ?_)
  rw [hs]
  refine wpAny_bind (wpAny_pure ?_)
  rw [if_neg (by decide)]
  refine wpAny_bind (Tuple_ (thn (ha _ pins s σ H _ I h) fun us s1 ⟨vs, H1, I1, r1, q1⟩ => ?_))
  obtain ⟨v, w, e1, q1⟩ := q1
  subst e1
  obtain ⟨u1, u2, rfl, rv, rw'⟩ : ∃ u1 u2, us = [u1, u2] ∧ RelV v u1 ∧ RelV w u2 := by
    cases r1 with
    | cons p q =>
      cases q with
      | cons p' q' =>
        cases q'
        exact ⟨_, _, rfl, p, p'⟩
  refine wpAny_newObj_type ?_ (by show 2 ≤ sizeLine; decide)
  have I2 : Inv X pins σ H1 { s1 with heap := s1.heap.push { cls := .type "tuple", data := .seq [u1, u2].toArray } } := I1.kept (t' := s1.toks) fun b o e => Heap.get?_push_of_some _ e
  rw [hw]
  refine wpAny_bind (wpAny_pure ?_)
  show wpAny (model X.prog X.w) X.A (do rule "assign.swapped-stores"; let items ← unpackItems (.ref s1.heap.objs.size) 2 none; assignInOrder [fun v => bindName X.env y v, fun v => bindName X.env x v] items.reverse; pure Flow.next) _ _ _
  refine wpAny_bind (wpAny_rule (wpAny_bind (unpackItems_tuple (items := #[u1, u2]) (I.ok.hd hc) (IsTup.new s1.heap _) fun h' hx' => ?_)))
  have I3 := I2.kept (h' := h') (t' := s1.toks) fun b o e => hx' b o (Nat.ne_of_lt (Heap.lt_size e)) e
  show wpAny _ _ (assignInOrder [fun v => bindName X.env y v, fun v => bindName X.env x v] [u2, u1] >>= fun _ => pure Flow.next) _ _ _
  refine wpAny_bind (assignInOrder_cons (wpAny_bindName (store_ok I3 hN hj (.inl hy) rw' (fun s2 I4 => ?_) (.inr hy))))
  refine assignInOrder_cons (wpAny_bindName (store_ok I4 hN hi (.inl hx) rv (fun s3 I5 => assignInOrder_nil (wpAny_pure ?_)) (.inr hx)))
  rw [List.set_comm _ _ (Ne.symm hij)] at I5
  exact ⟨_, H1, I5, q1⟩
/-- name op= e -/
def tAug (i : Nat) (te : TE) (ti : TIp) : TS := fun D σ H => ∃ x, σ[i]? = some (some x) ∧ te σ H fun y H1 => ti x y H1 fun z H2 => D.nx (σ.set i (some z)) H2
theorem ps_aug {i : Nat} {x : Str} {e : Expr} {te : TE} {op : Operator} {ti : TIp} {pos' : Pos} (hN : X.N.Nodup) (hi : X.N[i]? = some x) (hx : Loc X.env.scope x) (he : PE X e te) (ho : PIp X op ti) (hf : X.fn x = true ∨ X.env.scope.names.lookup x = some .local := by first | exact .inl rfl | exact .inr rfl | assumption) :
    PS X (.AugAssign (.Name x pos') op e pos) (tAug i te ti) := by
  intro pins s σ H D I h
  obtain ⟨v, e1, h⟩ := h
  obtain ⟨m, hn, hl⟩ := I.loc
  have vis : Vis X.env.scope x := by rcases hx with k | k; exact .inl k; exact .inr (.inl k)
  obtain ⟨u, r, l⟩ := hl i x v hi e1 vis
  refine wpAny_AugAssign_Name ?_
  have go : wpAny (model X.prog X.w) X.A (eval e X.env) (fun w s₂ => wpAny (model X.prog X.w) X.A (inplaceOp op u w) (fun r s₃ => wpAny (model X.prog X.w) X.A (storeName X.env x r) (fun _ => SP X pins D .next) X.xe s₃) X.xe s₂) X.xe s := by
    refine thn (he pins s σ H _ I h) fun w s1 ⟨y, H1, I1, r1, q1⟩ => ?_
    refine thn (ho pins s1 σ H1 v y u w _ I1 r r1 q1) fun z s2 ⟨zv, H2, I2, r2, q2⟩ => ?_
    exact store_ok I2 hN hi hx r2 (fun s3 I3 => ⟨_, H2, I3, q2⟩) hf
  rcases l with ⟨hk, hm⟩ | ⟨hk, c, hc, hcell⟩
  · exact wpAny_loadName_local I.ok.kind hk hn hm go
  · rcases hk with hk | hk
    · exact wpAny_loadName_cell I.ok.kind hk hc hcell go
    · rcases hx with k | k
      · have : X.env.scope.names.lookup x = some .free := hk
        rw [k] at this; cases this
      · have : X.env.scope.names.lookup x = some .free := hk
        rw [k] at this; cases this
/-- o[i] op= e -/
def tAugS (to ti te : TE) (tget : V → V → Hp → VK → Prop) (tip : TIp) (tset : TSet) : TS := fun D σ H => to σ H fun o H1 => ti σ H1 fun i H2 => tget o i H2 fun x H3 => te σ H3 fun y H4 => tip x y H4 fun z H5 => tset o i z H5 fun H6 => D.nx σ H6
/-- o[i], by values -/
def PGet (X : Cx) (t : V → V → Hp → VK → Prop) : Prop :=
  ∀ (pins : List (Addr × Obj)) (s : Shared) (σ : St) (H : Hp) (o i : V) (ov iv : Value) (Q : VK), Inv X pins σ H s → RelV o ov → RelV i iv → t o i H Q →
    wpAny (model X.prog X.w) X.A (getItem ov iv) (EP X pins σ Q) X.xe s
theorem ps_augS {o i e : Expr} {to ti te : TE} {tget : V → V → Hp → VK → Prop} {tip : TIp} {tset : TSet} {op : Operator} {tpos : Pos} (ho : PE X o to) (hi : PE X i ti) (hg : PGet X tget) (he : PE X e te) (hp : PIp X op tip) (hs : PSet X tset)
    (ha : ∀ ov iv new, augStore i ov iv new = (do holding [new, ov, iv] (setItem ov iv new); release [new, ov, iv] []; pure .next) := by intros; rfl) : PS X (.AugAssign (.Subscript o i tpos) op e pos) (tAugS to ti te tget tip tset) := by
  intro pins s σ H D I h
  refine wpAny_AugAssign_SubscriptAny (thn (ho pins s σ H _ I h) fun ov s1 ⟨x1, H1, I1, r1, q1⟩ => ?_) ha
  refine thn (hi pins s1 σ H1 _ I1 q1) fun iv s2 ⟨x2, H2, I2, r2, q2⟩ => ?_
  refine thn (hg pins s2 σ H2 x1 x2 ov iv _ I2 r1 r2 q2) fun old s3 ⟨x3, H3, I3, r3, q3⟩ => ?_
  refine thn (he pins s3 σ H3 _ I3 q3) fun v s4 ⟨x4, H4, I4, r4, q4⟩ => ?_
  refine thn (hp pins s4 σ H4 x3 x4 old v _ I4 r3 r4 q4) fun new s5 ⟨x5, H5, I5, r5, q5⟩ => ?_
  exact thn (hs pins s5 σ H5 x1 x2 x5 ov iv new _ I5 r1 r2 r5 q5) fun _ s6 ⟨H6, I6, q6⟩ => ⟨σ, H6, I6, q6⟩
/-- ints -/
def ipI (f : Int → Int → Int) : TIp := fun x y H Q => ∃ i j, x = .int i ∧ y = .int j ∧ Q (.int (f i j)) H
theorem ip_add : PIp X .Add (ipI fun i j => i + j) := by
  intro pins s σ H x y v u Q I r1 r2 h
  obtain ⟨i, j, e1, e2, q⟩ := h
  subst e1; subst e2
  obtain ⟨t, rfl⟩ := r1
  obtain ⟨t', rfl⟩ := r2
  exact iadd_int ⟨.int _, H, I.tok _, ⟨_, rfl⟩, q⟩
theorem ip_sub : PIp X .Sub (ipI fun i j => i - j) := by
  intro pins s σ H x y v u Q I r1 r2 h
  obtain ⟨i, j, e1, e2, q⟩ := h
  subst e1; subst e2
  obtain ⟨t, rfl⟩ := r1
  obtain ⟨t', rfl⟩ := r2
  exact isub_int ⟨.int _, H, I.tok _, ⟨_, rfl⟩, q⟩
end

/-! ### while -/
section
variable {X : Cx} {pos : Pos}
/-- the invariant W with its measure -/
def tWhile (c : TT) (tb : TS) : TS := fun D σ H => ∃ W : Nat → St → Hp → Prop, (∃ m, W m σ H) ∧ ∀ m σ H, W m σ H →
  c σ H fun b H1 => if b = true then ∃ N : St → Hp → Prop, (∀ σ' H', N σ' H' → ∃ m', m' < m ∧ W m' σ' H') ∧ tb { D with nx := N, ct := N, bk := D.nx } σ H1 else D.nx σ H1
theorem ps_while {c : Expr} {body : List Stmt} {tc : TT} {tb : TS} (hp : PassesOwn (model X.prog X.w) X.A X.env X.xe) (hc : PT X c tc) (hb : PSs X body tb) : PS X (.While c body [] pos) (tWhile tc tb) := by
  intro pins s σ H D I h
  obtain ⟨W, ⟨m0, w0⟩, turn⟩ := h
  refine wpAny_While (codeAny_whileLoop (fun n s' => ∃ σ' H', Inv X pins σ' H' s' ∧ W n σ' H') ?_ m0 ⟨σ, H, I, w0⟩)
  rintro n s1 ⟨σ1, H1, I1, w1⟩
  refine wpAny_passesOwn hp (thn (hc pins s1 σ1 H1 _ I1 (turn n σ1 H1 w1)) fun b s2 ⟨H2, I2, q2⟩ => ?_)
  cases b with
  | true =>
    obtain ⟨N, hN, q2⟩ := q2
    rw [if_pos rfl]
    refine wpAny_passesOwn hp (thn (hb pins s2 σ1 H2 _ I2 q2) fun f s3 q3 => ?_)
    cases f with
    | next =>
      obtain ⟨σ3, H3, I3, n3⟩ := q3
      obtain ⟨m', hm, w3⟩ := hN σ3 H3 n3
      exact ⟨m', hm, σ3, H3, I3, w3⟩
    | cont =>
      obtain ⟨σ3, H3, I3, n3⟩ := q3
      obtain ⟨m', hm, w3⟩ := hN σ3 H3 n3
      exact ⟨m', hm, σ3, H3, I3, w3⟩
    | brk => exact q3
    | ret v => exact q3
  | false =>
    rw [if_neg Bool.false_ne_true]
    exact wpAny_execs_nil ⟨σ1, H2, I2, q2⟩
end

/-! ### what a loop or a comprehension walks -/
/-- at turn i: it yields x (the heap may grow), or it stops -/
structure It where
  go : Nat → Hp → Prop
  yld : Nat → Hp → V → Hp → Prop
  stop : Nat → Hp → Prop
/-- the iterator's own objects may turn: they are not the frame's, not pinned, younger than the entry (or a comprehension's own) -/
def FpOk (X : Cx) (pins : List (Addr × Obj)) (H : Hp) (b : Addr) : Prop :=
  H b = none ∧ b ≠ X.env.locals ∧ b ∉ X.fs ∧ (b ∈ X.ex ∨ X.s₀.heap.objs.size ≤ b) ∧ (∀ x c, X.env.cells.lookup x = some c → c ≠ b) ∧ ∀ p ∈ X.pn ++ pins, p.1 ≠ b
theorem Inv.fpOk {X : Cx} {pins : List (Addr × Obj)} {σ : St} {H H' : Hp} {s : Shared} {b : Addr} (I : Inv X pins σ H s) (hb : s.heap.objs.size ≤ b) (hn : H' b = none) : FpOk X pins H' b := by
  refine ⟨hn, Nat.ne_of_gt (Nat.lt_of_lt_of_le I.lt hb), I.nofs hb, .inr (Nat.le_trans I.sz hb), fun x c e z => ?_, fun p hp z => ?_⟩
  · obtain ⟨v, q⟩ := I.cell x c e
    exact absurd (Nat.lt_of_lt_of_le q.lt (by rw [z]; exact hb)) (Nat.lt_irrefl _)
  · exact absurd (Nat.lt_of_lt_of_le (Heap.lt_size (I.pin p hp).1) (by rw [z]; exact hb)) (Nat.lt_irrefl _)
structure Turn (P : Program) (w : World) (K : PySem.W.Frag) (tg : Expr) (J : It) (fp : List Addr) (it : Addr) (tn : Nat → Heap → Prop) : Prop where
  mem : it ∈ fp
  obj : ∀ i h, tn i h → ∀ b ∈ fp, ∃ o, h.get? b = some o ∧ ∀ v, o.data ≠ .cell v
  keep : ∀ i h h', tn i h → (∀ b ∈ fp, ∀ o, h.get? b = some o → h'.get? b = some o) → tn i h'
  item : ∀ (X : Cx), X.prog = P → X.w = w → X.K = K → X.calm = true → ∀ (i : Nat) (pins : List (Addr × Obj)) (s : Shared) (σ : St) (H : Hp) (E : Value → Shared → Prop), Inv X pins σ H s → (∀ b ∈ fp, FpOk X pins H b) → tn i s.heap → J.go i H →
    wpAny (model P w) X.A (pyNext (.ref it)) (fun r s1 => ∃ u, r = some u ∧
      wpAny (model P w) X.A (letOwnedTupleGo tg (.ref it) u) (fun _ s2 => ∃ x H', Inv X pins σ H' s2 ∧ RelV x u ∧ J.yld i H x H' ∧ tn (i + 1) s2.heap ∧ ∀ b ∈ fp, H' b = none) E s1) E s
  done : ∀ (X : Cx), X.prog = P → X.w = w → X.K = K → X.calm = true → ∀ (i : Nat) (pins : List (Addr × Obj)) (s : Shared) (σ : St) (H : Hp) (E : Value → Shared → Prop), Inv X pins σ H s → (∀ b ∈ fp, FpOk X pins H b) → tn i s.heap → J.stop i H →
    wpAny (model P w) X.A (pyNext (.ref it)) (fun r s1 => r = none ∧ Inv X pins σ H s1) E s
  self : ∀ (A : Around) (i : Nat) (s : Shared) (Q : Value → Shared → Prop) (E : Value → Shared → Prop), tn i s.heap → Q (.ref it) s → wpAny (model P w) A (pyIter (.ref it)) Q E s
abbrev TI := St → Hp → (It → Hp → Prop) → Prop
/-- an iterator has come -/
def PIE (X : Cx) (pins : List (Addr × Obj)) (σ : St) (tg : Expr) (R : It → Hp → Prop) (itv : Value) (s2 : Shared) : Prop :=
  ∃ (it : Addr) (fp : List Addr) (tn : Nat → Heap → Prop) (J : It) (H' : Hp), itv = .ref it ∧ Inv X pins σ H' s2 ∧ Turn X.prog X.w X.K tg J fp it tn ∧ tn 0 s2.heap ∧ (∀ b ∈ fp, FpOk X pins H' b) ∧ R J H'
def PI (X : Cx) (tg iter : Expr) (wi : TI) : Prop :=
  ∀ (pins : List (Addr × Obj)) (s : Shared) (σ : St) (H : Hp) (R : It → Hp → Prop), Inv X pins σ H s → wi σ H R →
    wpAny (model X.prog X.w) X.A (eval iter X.env) (fun v s1 => wpAny (model X.prog X.w) X.A (pyIter v) (PIE X pins σ tg R) X.xe s1) X.xe s

/-- the step ahead of the store is nothing for an iterator that keeps no tuple -/
theorem go_of {M : Model} {A : Around} {E : Value → Shared → Prop} {s : Shared} {tg : Expr} {it : Addr} {u : Value} {o : Obj} {n : String} {vs : Array Value} {Q : Unit → Shared → Prop} (ho : s.heap.get? it = some o) (hc : o.cls = .type n) (hd : o.data = .fields vs)
    (hn : ["enumerate", "zip", "dict_itemiterator", "dict_reverseitemiterator", "odict_iterator", "itertools.zip_longest", "itertools.pairwise"].contains n = false) (hQ : Q () s) : wpAny M A (letOwnedTupleGo tg (.ref it) u) Q E s := by
  unfold letOwnedTupleGo
  cases tg <;> first
    | exact wpAny_pure hQ
    | (cases u <;> first
        | exact wpAny_pure hQ
        | (refine wpAny_bind (wpAny_load ho ?_)
           rw [hc, hd]
           show wpAny M A (if (["enumerate", "zip", "dict_itemiterator", "dict_reverseitemiterator", "odict_iterator", "itertools.zip_longest", "itertools.pairwise"].contains n && vs[0]? == some (rawInt _)) = true then _ else _) Q E s
           rw [if_neg (by intro h; rw [hn, Bool.false_and] at h; cases h)]
           exact wpAny_pure hQ))

/-- the list at a, as it stands at each turn (a loop may append to it) -/
def Itl (K : PySem.W.Frag) (a : Addr) : It :=
  ⟨fun i H => ∃ xs x, SqL K H a xs ∧ xs[i]? = some x, fun i H x H' => H' = H ∧ ∀ xs, SqL K H a xs → xs[i]? = some x, fun i H => ∃ xs, SqL K H a xs ∧ xs.length ≤ i⟩
def Itt (K : PySem.W.Frag) (a : Addr) : It :=
  ⟨fun i H => ∃ xs x, SqT K H a xs ∧ xs[i]? = some x, fun i H x H' => H' = H ∧ ∀ xs, SqT K H a xs → xs[i]? = some x, fun i H => ∃ xs, SqT K H a xs ∧ xs.length ≤ i⟩
/-- lo, lo + 1, .. (n of them) -/
def Itr (lo : Int) (n : Nat) : It := ⟨fun i _ => i < n, fun i H x H' => H' = H ∧ x = .int (lo + i), fun i _ => n ≤ i⟩
theorem turn_list {P : Program} {w : World} {K : PySem.W.Frag} {tg : Expr} (a it : Addr) : Turn P w K tg (Itl K a) [it] it (fun i h => h.IsListIter it a i) where
  mem := by simp
  obj := fun i h st b hb => by
    have e : b = it := by simpa using hb
    subst e
    obtain ⟨o, e, c, d⟩ := st
    exact ⟨o, e, fun v z => by rw [d] at z; cases z⟩
  keep := fun i h h' st k => st.at fun o e => k it (by simp) o e
  item := by
    intro X hP hw hK hc i pins s σ H E I hf st hg
    subst hP hw hK
    obtain ⟨xs, x, hq, hx⟩ := hg
    obtain ⟨its, rv, p, hz⟩ := I.list hq
    obtain ⟨u, hu, ru⟩ := rv.get hx
    obtain ⟨f0, f1, f2, f3, f4, f5⟩ := hf it (by simp)
    refine wpAny_pyNext_list_item st p.isList (x := u) (by simpa using hu) fun h' st' sb => ?_
    have I1 : Inv X pins σ H { s with heap := h' } := I.turned (t' := s.toks) (fun b o hb e => (sb.2 b hb).trans e) f0 f1 f3 f4 f5
    obtain ⟨o, e, c, d⟩ := id st'
    exact ⟨u, rfl, go_of (s := { s with heap := h' }) e c d (by decide) ⟨x, H, I1, ru, ⟨rfl, fun ys hy => by rw [I.list_inj hy hq]; exact hx⟩, st', fun b hb => (hf b hb).1⟩⟩
  done := by
    intro X hP hw hK hc i pins s σ H E I hf st hg
    subst hP hw hK
    obtain ⟨xs, hq, hx⟩ := hg
    obtain ⟨its, rv, p, hz⟩ := I.list hq
    obtain ⟨f0, f1, f2, f3, f4, f5⟩ := hf it (by simp)
    have hl := rv.length
    exact wpAny_pyNext_list_end (I.ok.hd hc) st p.isList (by simp; omega) fun h' eb => ⟨rfl, I.turned (t' := s.toks) (fun b o hb e => eb b o hb e) f0 f1 f3 f4 f5⟩
  self := fun _ _ _ _ _ st h => wpAny_pyIter_listiter st h
theorem turn_tuple {P : Program} {w : World} {K : PySem.W.Frag} {tg : Expr} (a it : Addr) : Turn P w K tg (Itt K a) [it] it (fun i h => h.IsTupleIter it a i) where
  mem := by simp
  obj := fun i h st b hb => by
    have e : b = it := by simpa using hb
    subst e
    obtain ⟨o, e, c, d⟩ := st
    exact ⟨o, e, fun v z => by rw [d] at z; cases z⟩
  keep := fun i h h' st k => st.at fun o e => k it (by simp) o e
  item := by
    intro X hP hw hK hc i pins s σ H E I hf st hg
    subst hP hw hK
    obtain ⟨xs, x, hq, hx⟩ := hg
    obtain ⟨its, rv, p, hz⟩ := I.tuple hq
    obtain ⟨u, hu, ru⟩ := rv.get hx
    obtain ⟨f0, f1, f2, f3, f4, f5⟩ := hf it (by simp)
    refine wpAny_pyNext_tuple_item st (show s.heap.IsTuple a its.toArray from p) (x := u) (by simpa using hu) fun h' st' sb => ?_
    have I1 : Inv X pins σ H { s with heap := h' } := I.turned (t' := s.toks) (fun b o hb e => (sb.2 b hb).trans e) f0 f1 f3 f4 f5
    obtain ⟨o, e, c, d⟩ := id st'
    exact ⟨u, rfl, go_of (s := { s with heap := h' }) e c d (by decide) ⟨x, H, I1, ru, ⟨rfl, fun ys hy => by rw [I.tuple_inj hy hq]; exact hx⟩, st', fun b hb => (hf b hb).1⟩⟩
  done := by
    intro X hP hw hK hc i pins s σ H E I hf st hg
    subst hP hw hK
    obtain ⟨xs, hq, hx⟩ := hg
    obtain ⟨its, rv, p, hz⟩ := I.tuple hq
    obtain ⟨f0, f1, f2, f3, f4, f5⟩ := hf it (by simp)
    have hl := rv.length
    exact wpAny_pyNext_tuple_end (I.ok.hd hc) st (show s.heap.IsTuple a its.toArray from p) (by simp; omega) fun h' eb => ⟨rfl, I.turned (t' := s.toks) (fun b o hb e => eb b o hb e) f0 f1 f3 f4 f5⟩
  self := fun _ _ _ _ _ st h => wpAny_pyIter_tupleiter st h
theorem turn_range {P : Program} {w : World} {K : PySem.W.Frag} {tg : Expr} (it : Addr) (lo : Int) (n : Nat) : Turn P w K tg (Itr lo n) [it] it (fun i h => IsRangeIter h it (lo + (i : Nat) * 1) ((n : Int) - (i : Nat)) 1) where
  mem := by simp
  obj := fun i h st b hb => by
    have e : b = it := by simpa using hb
    subst e
    exact ⟨_, st, fun v z => by
      have z' : Data.fields _ = Data.cell v := z
      cases z'⟩
  keep := fun i h h' st k => k it (by simp) _ st
  item := by
    intro X hP hw hK hc i pins s σ H E I hf st hg
    subst hP hw hK
    obtain ⟨f0, f1, f2, f3, f4, f5⟩ := hf it (by simp)
    have W := Walks.range (prog := X.prog) (w := X.w) (I.ok.hd hc) it lo 1 n
    refine W.item i s _ _ hg st fun v h' tk hv st' kk => ?_
    obtain ⟨t, rfl⟩ := hv
    have I1 : Inv X pins σ H { s with heap := h', toks := tk } := I.turned (fun b o hb e => kk b o (by simpa using hb) e) f0 f1 f3 f4 f5
    refine ⟨_, rfl, go_of (s := { s with heap := h', toks := tk }) (n := "range_iterator") st' rfl rfl (by decide) ⟨.int (lo + i), H, I1, ⟨t, ?_⟩, ⟨rfl, rfl⟩, st', fun b hb => (hf b hb).1⟩⟩
    rw [Int.mul_one]
  done := by
    intro X hP hw hK hc i pins s σ H E I hf st hg
    subst hP hw hK
    obtain ⟨f0, f1, f2, f3, f4, f5⟩ := hf it (by simp)
    exact wpAny_pyNext_range_end (I.ok.hd hc) st (by have : n ≤ i := hg; omega) fun h' eb => ⟨rfl, I.turned (t' := s.toks) (fun b o hb e => eb b o hb e) f0 f1 f3 f4 f5⟩
  self := fun _ _ _ _ _ st h => wpAny_pyIter_rangeiter st h
end L2

namespace L2
open PySem PySem.Spec PyProof.Rows
section
variable {X : Cx} {tg : Expr}
def iList (K : PySem.W.Frag) (tl : TE) : TI := fun σ H R => tl σ H fun x H1 => ∃ a, x = .ref a ∧ (∃ xs, SqL K H1 a xs) ∧ R (Itl K a) H1
def iTup (K : PySem.W.Frag) (tl : TE) : TI := fun σ H R => tl σ H fun x H1 => ∃ a, x = .ref a ∧ (∃ xs, SqT K H1 a xs) ∧ R (Itt K a) H1
theorem pi_list {l : Expr} {tl : TE} (hl : PE X l tl) : PI X tg l (iList X.K tl) := by
  intro pins s σ H R I h
  refine thn (hl pins s σ H _ I h) fun v s1 ⟨x, H1, I1, r1, q1⟩ => ?_
  obtain ⟨a, e, ⟨xs, hq⟩, q⟩ := q1
  subst e
  cases r1
  obtain ⟨its, rv, p, hz⟩ := I1.list hq
  refine wpAny_pyIter_list p.isList ?_
  refine ⟨s1.heap.objs.size, [s1.heap.objs.size], _, _, H1, rfl, I1.kept (t' := s1.toks) fun b o e => Heap.get?_push_of_some _ e, turn_list a _, ⟨_, Heap.get?_push_size _ rfl, rfl, rfl⟩, fun b hb => ?_, q⟩
  have e : b = s1.heap.objs.size := by simpa using hb
  subst e
  exact I1.fpOk (Nat.le_refl _) (I1.hok.fresh (Nat.le_refl _))
theorem pi_tup {l : Expr} {tl : TE} (hl : PE X l tl) : PI X tg l (iTup X.K tl) := by
  intro pins s σ H R I h
  refine thn (hl pins s σ H _ I h) fun v s1 ⟨x, H1, I1, r1, q1⟩ => ?_
  obtain ⟨a, e, ⟨xs, hq⟩, q⟩ := q1
  subst e
  cases r1
  obtain ⟨its, rv, p, hz⟩ := I1.tuple hq
  refine wpAny_pyIter_tuple (show s1.heap.IsTuple a its.toArray from p) ?_
  refine ⟨s1.heap.objs.size, [s1.heap.objs.size], _, _, H1, rfl, I1.kept (t' := s1.toks) fun b o e => Heap.get?_push_of_some _ e, turn_tuple a _, ⟨_, Heap.get?_push_size _ rfl, rfl, rfl⟩, fun b hb => ?_, q⟩
  have e : b = s1.heap.objs.size := by simpa using hb
  subst e
  exact I1.fpOk (Nat.le_refl _) (I1.hok.fresh (Nat.le_refl _))
/-- a range object just made, walked -/
theorem range_it {pins : List (Addr × Obj)} {σ : St} {H : Hp} {s : Shared} {R : It → Hp → Prop} {E : Value → Shared → Prop} {lo hi : Int} {t u v : Tok} {tk : Nat} (I : Inv X pins σ H s) (h1 : -(2 ^ 62) ≤ lo) (h2 : lo < 2 ^ 62) (h3 : -(2 ^ 62) ≤ hi) (h4 : hi < 2 ^ 62)
    (q : R (Itr lo (hi - lo).toNat) H) : wpAny (model X.prog X.w) X.A (pyIter (.ref s.heap.objs.size)) (PIE X pins σ tg R) E { s with heap := s.heap.push { cls := .type "range", data := .fields #[.int lo t, .int hi u, .int 1 v] }, toks := tk } := by
  refine wpAny_pyIter_range (IsRange.new ..) (small_one h1 h2 h3 h4) ?_
  have I1 : Inv X pins σ H { s with heap := s.heap.push { cls := .type "range", data := .fields #[.int lo t, .int hi u, .int 1 v] }, toks := tk } := I.kept fun b o e => Heap.get?_push_of_some _ e
  refine ⟨(s.heap.push { cls := .type "range", data := .fields #[.int lo t, .int hi u, .int 1 v] }).objs.size, [(s.heap.push { cls := .type "range", data := .fields #[.int lo t, .int hi u, .int 1 v] }).objs.size], _, _, H, rfl,
    I1.kept (t' := tk) fun b o e => Heap.get?_push_of_some _ e, turn_range _ lo (hi - lo).toNat, ?_, fun b hb => ?_, q⟩
  · have e1 : lo + ((0 : Nat) : Int) * 1 = lo := by simp
    have e2 : (((hi - lo).toNat : Nat) : Int) - ((0 : Nat) : Int) = Builtin.Range.rangeSize lo hi 1 := by rw [rangeSize_one]; split <;> omega
    show IsRangeIter _ _ (lo + ((0 : Nat) : Int) * 1) ((((hi - lo).toNat : Nat) : Int) - ((0 : Nat) : Int)) 1
    rw [e1, e2]
    exact Heap.get?_push_size _ rfl
  · have e : b = (s.heap.push { cls := .type "range", data := .fields #[.int lo t, .int hi u, .int 1 v] }).objs.size := by simpa using hb
    subst e
    exact I1.fpOk (Nat.le_refl _) (I1.hok.fresh (Nat.le_refl _))
def iRng1 (ta : TA) : TI := fun σ H R => ta σ H fun vs H1 => ∃ j : Int, vs = [.int j] ∧ -(2 ^ 62) ≤ j ∧ j < 2 ^ 62 ∧ R (Itr 0 j.toNat) H1
def iRng2 (ta : TA) : TI := fun σ H R => ta σ H fun vs H1 => ∃ i j : Int, vs = [.int i, .int j] ∧ (-(2 ^ 62) ≤ i ∧ i < 2 ^ 62 ∧ -(2 ^ 62) ≤ j ∧ j < 2 ^ 62) ∧ R (Itr i (j - i).toNat) H1
theorem pi_range1 {a : Expr} {ta : TA} {p pos : Pos} (hg : Gl X "range") (hm : X.mg "range" = none) (ha : PA X [a] ta) (hs : starEach [a] X.env = [(false, eval a X.env)] := by rfl) : PI X tg (.Call (.Name "range" p) [a] [] pos) (iRng1 ta) := by
  intro pins s σ H R I h
  refine Call_ (ld_blt I hg hm boot_range (PyProof.Rows.callWith_type1 (thn (ha pos pins s σ H _ I h) fun us s1 ⟨vs, H1, I1, r1, q1⟩ => ?_) hs rfl))
  obtain ⟨j, e, q1, q2, q⟩ := q1
  subst e
  cases r1 with
  | cons r rr =>
    cases rr
    obtain ⟨t, rfl⟩ := r
    exact call_range_1 (range_it I1 (by omega) (by omega) q1 q2 (by simpa using q))
theorem pi_range2 {a b : Expr} {ta : TA} {p pos : Pos} (hg : Gl X "range") (hm : X.mg "range" = none) (ha : PA X [a, b] ta) (hs : starEach [a, b] X.env = [(false, eval a X.env), (false, eval b X.env)] := by rfl) (hs2 : starEach [b] X.env = [(false, eval b X.env)] := by rfl) :
    PI X tg (.Call (.Name "range" p) [a, b] [] pos) (iRng2 ta) := by
  intro pins s σ H R I h
  refine Call_ (ld_blt I hg hm boot_range (PyProof.Rows.callWith_type1 (thn (ha pos pins s σ H _ I h) fun us s1 ⟨vs, H1, I1, r1, q1⟩ => ?_) (by rw [hs, hs2]) (by rw [hs2]; rfl)))
  obtain ⟨i, j, e, ⟨q1, q2, q3, q4⟩, q⟩ := q1
  subst e
  cases r1 with
  | cons r rr =>
    cases rr with
    | cons r' rr =>
      cases rr
      obtain ⟨t, rfl⟩ := r
      obtain ⟨t', rfl⟩ := r'
      exact call_range_2 (range_it I1 q1 q2 q3 q4 q)

/-! ### for -/
/-- W: the invariant by the turn and a measure; N: what the body is to reach -/
def tFor (wi : TI) (g : TG) (tb : TS) : TS := fun D σ H => wi σ H fun J H1 => ∃ W : Nat → Nat → St → Hp → Prop, (∃ m, W 0 m σ H1) ∧ ∀ i m σ H, W i m σ H →
  (J.stop i H ∧ D.nx σ H) ∨ (J.go i H ∧ ∃ N : St → Hp → Prop, (∀ σ' H', N σ' H' → ∃ m', m' < m ∧ W (i + 1) m' σ' H') ∧ ∀ x H', J.yld i H x H' → g x σ H' fun σ2 H2 => tb { D with nx := N, ct := N, bk := D.nx } σ2 H2)
/-- the records at fp as they stand -/
def pinsAt (fp : List Addr) (h : Heap) : List (Addr × Obj) := fp.filterMap fun b => (h.get? b).map fun o => (b, o)
theorem mem_pinsAt {fp : List Addr} {h : Heap} {b : Addr} {o : Obj} (hb : b ∈ fp) (e : h.get? b = some o) : (b, o) ∈ pinsAt fp h := List.mem_filterMap.mpr ⟨b, hb, by rw [e]; rfl⟩
theorem of_pinsAt {fp : List Addr} {h : Heap} {p : Addr × Obj} (hp : p ∈ pinsAt fp h) : p.1 ∈ fp ∧ h.get? p.1 = some p.2 := by
  obtain ⟨b, hb, e⟩ := List.mem_filterMap.mp hp
  cases q : h.get? b with
  | none => rw [q] at e; cases e
  | some o =>
    rw [q] at e
    have e' : (b, o) = p := Option.some.inj e
    subst e'
    exact ⟨hb, q⟩
theorem Inv.pinned {pins : List (Addr × Obj)} {σ : St} {H : Hp} {s : Shared} {fp : List Addr} (I : Inv X pins σ H s) (hf : ∀ b ∈ fp, FpOk X pins H b) (ho : ∀ b ∈ fp, ∃ o, s.heap.get? b = some o ∧ ∀ v, o.data ≠ .cell v) : Inv X (pins ++ pinsAt fp s.heap) σ H s :=
  I.pins_of fun p hp => (List.mem_append.mp hp).elim (fun z => I.pin p (List.mem_append_right _ z)) fun z => by
    obtain ⟨hb, e⟩ := of_pinsAt z
    obtain ⟨f0, f1, f2, _⟩ := hf p.1 hb
    obtain ⟨o, e', d⟩ := ho p.1 hb
    rw [e] at e'; cases e'
    exact ⟨e, f0, f1, f2, d⟩
theorem Inv.unpinned {pins pl : List (Addr × Obj)} {σ : St} {H : Hp} {s : Shared} (I : Inv X (pins ++ pl) σ H s) : Inv X pins σ H s := I.pins_of fun p hp => I.pin p (List.mem_append_right _ (List.mem_append_left _ hp))
theorem ps_for {iter : Expr} {body : List Stmt} {wi : TI} {g : TG} {tb : TS} {pos : Pos} (hp : PassesOwn (model X.prog X.w) X.A X.env X.xe) (hc : X.calm = true) (hi : PI X tg iter wi) (hg : PG X tg g) (hb : PSs X body tb)
    (hs : ∀ x, foldedSetIterable iter X.env x = pure x := by intro _; rfl) : PS X (.For tg iter body [] pos) (tFor wi g tb) := by
  intro pins s σ H D I h
  refine wpAny_For (thn (hi pins s σ H _ I h) fun v s1 h1 => thn h1 fun itv s2 h2 => ?_) hs
  obtain ⟨it, fp, tn, J, H2, e, I2, T, st2, f2, W, ⟨m0, w0⟩, turn⟩ := h2
  subst e
  -- what stays true of the iterator's objects through the loop
  have stat : ∀ {H' : Hp}, (∀ b ∈ fp, H' b = none) → ∀ b ∈ fp, FpOk X pins H' b := fun hn b hb => ⟨hn b hb, (f2 b hb).2⟩
  refine codeAny_forLoop_any (fun n s' => ∃ i σ' H', Inv X pins σ' H' s' ∧ tn i s'.heap ∧ (∀ b ∈ fp, H' b = none) ∧ W i n σ' H') ?_ m0 ⟨0, σ, H2, I2, st2, fun b hb => (f2 b hb).1, w0⟩
  rintro n s3 ⟨i, σ3, H3, I3, st3, fr3, w3⟩
  rcases turn i n σ3 H3 w3 with ⟨stop, qn⟩ | ⟨go, N, hN, step⟩
  · refine wpAny_passesOwn hp (thn (T.done X rfl rfl rfl hc i pins s3 σ3 H3 X.xe I3 (stat fr3) st3 stop) fun r s4 ⟨hr, I4⟩ => ?_)
    subst hr
    exact wpAny_execs_nil ⟨σ3, H3, I4, qn⟩
  · refine wpAny_passesOwn hp (thn (T.item X rfl rfl rfl hc i pins s3 σ3 H3 X.xe I3 (stat fr3) st3 go) fun r s4 ⟨u, hr, h4⟩ => ?_)
    subst hr
    refine wpAny_passesOwn hp (thn h4 fun _ s5 ⟨x, H5, I5, r5, y5, st5, fr5⟩ => ?_)
    have I5' := I5.pinned (stat fr5) (T.obj _ _ st5)
    refine wpAny_passesOwn hp (thn (hg _ s5 σ3 H5 x u _ I5' r5 (step x H5 y5)) fun _ s6 ⟨σ6, H6, I6, q6⟩ => ?_)
    refine wpAny_passesOwn hp (thn (hb _ s6 σ6 H6 _ I6 q6) fun f s7 q7 => ?_)
    have again : ∀ {σ7 : St} {H7 : Hp}, Inv X (pins ++ pinsAt fp s5.heap) σ7 H7 s7 → N σ7 H7 → ∃ m, m < n ∧ ∃ i σ' H', Inv X pins σ' H' s7 ∧ tn i s7.heap ∧ (∀ b ∈ fp, H' b = none) ∧ W i m σ' H' := fun {σ7 H7} I7 n7 => by
      obtain ⟨m', hm, w7⟩ := hN σ7 H7 n7
      refine ⟨m', hm, i + 1, σ7, H7, I7.unpinned, T.keep _ _ _ st5 fun b hb o e => (I7.pin (b, o) (List.mem_append_right _ (List.mem_append_right _ (mem_pinsAt hb e)))).1, fun b hb => ?_, w7⟩
      obtain ⟨o, e, d⟩ := T.obj _ _ st5 b hb
      exact (I7.pin (b, o) (List.mem_append_right _ (List.mem_append_right _ (mem_pinsAt hb e)))).2.1
    cases f with
    | next => obtain ⟨σ7, H7, I7, n7⟩ := q7; exact again I7 n7
    | cont => obtain ⟨σ7, H7, I7, n7⟩ := q7; exact again I7 n7
    | brk => obtain ⟨σ7, H7, I7, q7⟩ := q7; exact ⟨σ7, H7, I7.unpinned, q7⟩
    | ret v => obtain ⟨x7, σ7, H7, I7, r7, q7⟩ := q7; exact ⟨x7, σ7, H7, I7.unpinned, r7, q7⟩
end

/-! ### the forms one uses -/
/-- over a list that the body leaves as it is -/
theorem for_list {K : PySem.W.Frag} {a : Addr} {xs : List V} {g : TG} {tb : TS} {D : Ends} {σ : St} {H : Hp} (Pv : Nat → St → Hp → Prop) (h0 : Pv 0 σ H) (hl : ∀ i σ H, i ≤ xs.length → Pv i σ H → SqL K H a xs)
    (hs : ∀ i x σ H, xs[i]? = some x → Pv i σ H → g x σ H fun σ2 H2 => tb { D with nx := Pv (i + 1), ct := Pv (i + 1), bk := D.nx } σ2 H2) (hd : ∀ σ H, Pv xs.length σ H → D.nx σ H) :
    ∃ W : Nat → Nat → St → Hp → Prop, (∃ m, W 0 m σ H) ∧ ∀ i m σ H, W i m σ H →
      ((Itl K a).stop i H ∧ D.nx σ H) ∨ ((Itl K a).go i H ∧ ∃ N : St → Hp → Prop, (∀ σ' H', N σ' H' → ∃ m', m' < m ∧ W (i + 1) m' σ' H') ∧ ∀ x H', (Itl K a).yld i H x H' → g x σ H' fun σ2 H2 => tb { D with nx := N, ct := N, bk := D.nx } σ2 H2) := by
  refine ⟨fun i m σ H => m = xs.length - i ∧ i ≤ xs.length ∧ Pv i σ H, ⟨xs.length, by simp, Nat.zero_le _, h0⟩, ?_⟩
  rintro i m σ H ⟨rfl, hi, p⟩
  have q := hl i σ H hi p
  by_cases hlt : i < xs.length
  · refine .inr ⟨⟨xs, xs[i], q, by simp [hlt]⟩, Pv (i + 1), fun σ' H' p' => ⟨xs.length - (i + 1), by omega, rfl, hlt, p'⟩, fun x H' y => ?_⟩
    obtain ⟨e, y⟩ := y
    subst e
    exact hs i x σ _ (y xs q) p
  · have e : i = xs.length := by omega
    subst e
    exact .inl ⟨⟨xs, q, Nat.le_refl _⟩, hd σ H p⟩
theorem for_tup {K : PySem.W.Frag} {a : Addr} {xs : List V} {g : TG} {tb : TS} {D : Ends} {σ : St} {H : Hp} (Pv : Nat → St → Hp → Prop) (h0 : Pv 0 σ H) (hl : ∀ i σ H, i ≤ xs.length → Pv i σ H → SqT K H a xs)
    (hs : ∀ i x σ H, xs[i]? = some x → Pv i σ H → g x σ H fun σ2 H2 => tb { D with nx := Pv (i + 1), ct := Pv (i + 1), bk := D.nx } σ2 H2) (hd : ∀ σ H, Pv xs.length σ H → D.nx σ H) :
    ∃ W : Nat → Nat → St → Hp → Prop, (∃ m, W 0 m σ H) ∧ ∀ i m σ H, W i m σ H →
      ((Itt K a).stop i H ∧ D.nx σ H) ∨ ((Itt K a).go i H ∧ ∃ N : St → Hp → Prop, (∀ σ' H', N σ' H' → ∃ m', m' < m ∧ W (i + 1) m' σ' H') ∧ ∀ x H', (Itt K a).yld i H x H' → g x σ H' fun σ2 H2 => tb { D with nx := N, ct := N, bk := D.nx } σ2 H2) := by
  refine ⟨fun i m σ H => m = xs.length - i ∧ i ≤ xs.length ∧ Pv i σ H, ⟨xs.length, by simp, Nat.zero_le _, h0⟩, ?_⟩
  rintro i m σ H ⟨rfl, hi, p⟩
  have q := hl i σ H hi p
  by_cases hlt : i < xs.length
  · refine .inr ⟨⟨xs, xs[i], q, by simp [hlt]⟩, Pv (i + 1), fun σ' H' p' => ⟨xs.length - (i + 1), by omega, rfl, hlt, p'⟩, fun x H' y => ?_⟩
    obtain ⟨e, y⟩ := y
    subst e
    exact hs i x σ _ (y xs q) p
  · have e : i = xs.length := by omega
    subst e
    exact .inl ⟨⟨xs, q, Nat.le_refl _⟩, hd σ H p⟩
theorem for_range {lo : Int} {n : Nat} {g : TG} {tb : TS} {D : Ends} {σ : St} {H : Hp} (Pv : Nat → St → Hp → Prop) (h0 : Pv 0 σ H)
    (hs : ∀ i σ H, i < n → Pv i σ H → g (.int (lo + i)) σ H fun σ2 H2 => tb { D with nx := Pv (i + 1), ct := Pv (i + 1), bk := D.nx } σ2 H2) (hd : ∀ σ H, Pv n σ H → D.nx σ H) :
    ∃ W : Nat → Nat → St → Hp → Prop, (∃ m, W 0 m σ H) ∧ ∀ i m σ H, W i m σ H →
      ((Itr lo n).stop i H ∧ D.nx σ H) ∨ ((Itr lo n).go i H ∧ ∃ N : St → Hp → Prop, (∀ σ' H', N σ' H' → ∃ m', m' < m ∧ W (i + 1) m' σ' H') ∧ ∀ x H', (Itr lo n).yld i H x H' → g x σ H' fun σ2 H2 => tb { D with nx := N, ct := N, bk := D.nx } σ2 H2) := by
  refine ⟨fun i m σ H => m = n - i ∧ i ≤ n ∧ Pv i σ H, ⟨n, by simp, Nat.zero_le _, h0⟩, ?_⟩
  rintro i m σ H ⟨rfl, hi, p⟩
  by_cases hlt : i < n
  · refine .inr ⟨hlt, Pv (i + 1), fun σ' H' p' => ⟨n - (i + 1), by omega, rfl, hlt, p'⟩, fun x H' y => ?_⟩
    obtain ⟨e, y⟩ := y
    subst e y
    exact hs i σ _ hlt p
  · have e : i = n := by omega
    subst e
    exact .inl ⟨Nat.le_refl _, hd σ H p⟩
/-- while, by a word and a measure of the state -/
theorem while_by {c : TT} {tb : TS} {D : Ends} {σ : St} {H : Hp} (Pv : St → Hp → Prop) (μ : St → Hp → Nat) (h0 : Pv σ H)
    (hs : ∀ σ H, Pv σ H → c σ H fun b H1 => if b = true then tb { D with nx := fun σ' H' => Pv σ' H' ∧ μ σ' H' < μ σ H, ct := fun σ' H' => Pv σ' H' ∧ μ σ' H' < μ σ H, bk := D.nx } σ H1 else D.nx σ H1)
    (mono : ∀ σ H Q Q', (∀ b H1, Q b H1 → Q' b H1) → c σ H Q → c σ H Q') : tWhile c tb D σ H := by
  refine ⟨fun m σ H => m = μ σ H ∧ Pv σ H, ⟨_, rfl, h0⟩, ?_⟩
  rintro m σ H ⟨rfl, p⟩
  refine mono σ H _ _ (fun b H1 q => ?_) (hs σ H p)
  cases b with
  | true => exact ⟨_, fun σ' H' ⟨p', l⟩ => ⟨_, l, rfl, p'⟩, q⟩
  | false => exact q
end L2

namespace L2
open PySem PySem.Spec PyProof.Rows

abbrev R2 := V → V → Hp → VK → Prop
/-- a two-place operation on values: f is binaryOp op, inplaceOp op or compareOp op -/
def OpR (X : Cx) (f : Value → Value → Sem Value) (r : R2) : Prop :=
  ∀ (pins : List (Addr × Obj)) (s : Shared) (σ : St) (H : Hp) (x y : V) (v u : Value) (Q : VK), Inv X pins σ H s → RelV x v → RelV y u → r x y H Q →
    wpAny (model X.prog X.w) X.A (f v u) (EP X pins σ Q) X.xe s
/-- a one-place operation -/
def UnR (X : Cx) (f : Value → Sem Value) (r : V → Hp → VK → Prop) : Prop :=
  ∀ (pins : List (Addr × Obj)) (s : Shared) (σ : St) (H : Hp) (x : V) (v : Value) (Q : VK), Inv X pins σ H s → RelV x v → r x H Q →
    wpAny (model X.prog X.w) X.A (f v) (EP X pins σ Q) X.xe s
/-- a call of a value that is known (a builtin, a type) with values -/
def CallR (X : Cx) (f : Value) (r : List V → Hp → VK → Prop) : Prop :=
  ∀ (pins : List (Addr × Obj)) (s : Shared) (σ : St) (H : Hp) (xs : List V) (us : List Value) (Q : VK), Inv X pins σ H s → Vals xs us → r xs H Q →
    wpAny (model X.prog X.w) X.A (call f us) (EP X pins σ Q) X.xe s
/-- a value's truth -/
def TruR (X : Cx) (r : V → Hp → (Bool → Hp → Prop) → Prop) : Prop :=
  ∀ (pins : List (Addr × Obj)) (s : Shared) (σ : St) (H : Hp) (x : V) (v : Value) (Q : Bool → Hp → Prop), Inv X pins σ H s → RelV x v → r x H Q →
    wpAny (model X.prog X.w) X.A (truthy v) (TP X pins σ Q) X.xe s

def tOp (r : R2) (ta tb : TE) : TE := fun σ H Q => ta σ H fun x H1 => tb σ H1 fun y H2 => r x y H2 Q
def tUn (r : V → Hp → VK → Prop) (ta : TE) : TE := fun σ H Q => ta σ H fun x H1 => r x H1 Q
/-- ints in, under C, and a value out -/
def rI (C : Int → Int → Prop) (g : Int → Int → V) : R2 := fun x y H Q => ∃ i j, x = .int i ∧ y = .int j ∧ C i j ∧ Q (g i j) H
def rI0 (g : Int → Int → V) : R2 := fun x y H Q => ∃ i j, x = .int i ∧ y = .int j ∧ Q (g i j) H
def rU (g : Int → V) : V → Hp → VK → Prop := fun x H Q => ∃ i, x = .int i ∧ Q (g i) H

section
variable {X : Cx} {a b c : Expr} {ta tb tc : TE} {pos : Pos}

theorem binT (ha : PE X a ta) (hb : PE X b tb) {pins : List (Addr × Obj)} {s : Shared} {σ : St} {H : Hp} {R : V → V → Hp → Prop} (I : Inv X pins σ H s)
    (h : ta σ H fun x H1 => tb σ H1 fun y H2 => R x y H2) {Q : Value → Shared → Prop} {f : Value → Value → Sem Value}
    (hf : ∀ v u s2 x y H2, Inv X pins σ H2 s2 → RelV x v → RelV y u → R x y H2 → wpAny (model X.prog X.w) X.A (f v u) Q X.xe s2) :
    wpAny (model X.prog X.w) X.A (eval a X.env) (fun v s₁ => wpAny (model X.prog X.w) X.A (eval b X.env) (fun u s₂ => wpAny (model X.prog X.w) X.A (f v u) Q X.xe s₂) X.xe s₁) X.xe s := by
  refine thn (ha pins s σ H _ I h) fun v s1 ⟨x, H1, I1, r1, q1⟩ => ?_
  refine thn (hb pins s1 σ H1 _ I1 q1) fun u s2 ⟨y, H2, I2, r2, q2⟩ => ?_
  exact hf v u s2 x y H2 I2 r1 r2 q2

theorem pe_op {op : Operator} {r : R2} (ho : OpR X (binaryOp op) r) (ha : PE X a ta) (hb : PE X b tb) : PE X (.BinOp a op b pos) (tOp r ta tb) := by
  intro pins s σ H Q I h
  exact wpAny_BinOp (binT ha hb I h fun v u s2 x y H2 I2 rx ry q => ho pins s2 σ H2 x y v u Q I2 rx ry q)
theorem pe_un {op : UnaryOp} {r : V → Hp → VK → Prop} (ho : UnR X (unaryOp op) r) (ha : PE X a ta) : PE X (.UnaryOp op a pos) (tUn r ta) := by
  intro pins s σ H Q I h
  exact UnaryOp_ (thn (ha pins s σ H _ I h) fun v s1 ⟨x, H1, I1, r1, q1⟩ => ho pins s1 σ H1 x v Q I1 r1 q1)
/-- a op= e at a name: the name's slot i -/
theorem augR {op : Operator} {r : R2} (ho : OpR X (inplaceOp op) r) {pins : List (Addr × Obj)} {s : Shared} {σ : St} {H : Hp} {x y : V} {v u : Value} {Q : VK} (I : Inv X pins σ H s)
    (rx : RelV x v) (ry : RelV y u) (q : r x y H Q) : wpAny (model X.prog X.w) X.A (inplaceOp op v u) (EP X pins σ Q) X.xe s := ho pins s σ H x y v u Q I rx ry q

/-! ### ints -/
theorem opI {f : Value → Value → Sem Value} {C : Int → Int → Prop} {g : Int → Int → Int}
    (rule : ∀ (i j : Int) (t u : Tok) (s : Shared) (Q : Value → Shared → Prop) (E : Value → Shared → Prop), C i j → Q (.int (g i j) s.toks) { s with toks := s.toks + 1 } → wpAny (model X.prog X.w) X.A (f (.int i t) (.int j u)) Q E s) :
    OpR X f (rI C fun i j => .int (g i j)) := by
  intro pins s σ H x y v u Q I rx ry h
  obtain ⟨i, j, rfl, rfl, hc, q⟩ := h
  obtain ⟨t, rfl⟩ := rx
  obtain ⟨t', rfl⟩ := ry
  exact rule i j t t' s _ _ hc ⟨.int (g i j), H, I.tok _, ⟨_, rfl⟩, q⟩
theorem opI0 {f : Value → Value → Sem Value} {g : Int → Int → Int}
    (rule : ∀ (i j : Int) (t u : Tok) (s : Shared) (Q : Value → Shared → Prop) (E : Value → Shared → Prop), Q (.int (g i j) s.toks) { s with toks := s.toks + 1 } → wpAny (model X.prog X.w) X.A (f (.int i t) (.int j u)) Q E s) :
    OpR X f (rI0 fun i j => .int (g i j)) := by
  intro pins s σ H x y v u Q I rx ry h
  obtain ⟨i, j, rfl, rfl, q⟩ := h
  obtain ⟨t, rfl⟩ := rx
  obtain ⟨t', rfl⟩ := ry
  exact rule i j t t' s _ _ ⟨.int (g i j), H, I.tok _, ⟨_, rfl⟩, q⟩
theorem opB0 {f : Value → Value → Sem Value} {g : Int → Int → Bool}
    (rule : ∀ (i j : Int) (t u : Tok) (s : Shared) (Q : Value → Shared → Prop) (E : Value → Shared → Prop), Q (.bool (g i j)) s → wpAny (model X.prog X.w) X.A (f (.int i t) (.int j u)) Q E s) :
    OpR X f (rI0 fun i j => .bl (g i j)) := by
  intro pins s σ H x y v u Q I rx ry h
  obtain ⟨i, j, rfl, rfl, q⟩ := h
  obtain ⟨t, rfl⟩ := rx
  obtain ⟨t', rfl⟩ := ry
  exact rule i j t t' s _ _ ⟨.bl (g i j), H, I, rfl, q⟩

def CDiv (i j : Int) : Prop := 0 < j ∧ j < 1073741824
def CDivN (i j : Int) : Prop := j ≠ 0 ∧ j.natAbs < 1073741824
def CPow (i j : Int) : Prop := 0 ≤ j ∧ j ≤ 1000000 ∧ i.natAbs < 2 ^ 64
def CMul (i j : Int) : Prop := (-(2 ^ 64) < i ∧ i < 2 ^ 64) ∨ (-(2 ^ 64) < j ∧ j < 2 ^ 64)
theorem CMul.ok {i j : Int} (h : CMul i j) : IntMulOk i j := by
  rcases h with ⟨h1, h2⟩ | ⟨h1, h2⟩
  · exact .of_left (intBits_le_64 h1 h2)
  · exact .of_right (intBits_le_64 h1 h2)
theorem two_pow_nn (k : Nat) : (0 : Int) ≤ 2 ^ k := by
  rw [two_pow_cast]
  exact Int.natCast_nonneg _

theorem op_add : OpR X (binaryOp .Add) (rI0 fun i j => .int (i + j)) := opI0 fun _ _ _ _ _ _ _ q => add_int q
theorem op_sub : OpR X (binaryOp .Sub) (rI0 fun i j => .int (i - j)) := opI0 fun _ _ _ _ _ _ _ q => sub_int q
theorem op_mul : OpR X (binaryOp .Mult) (rI CMul fun i j => .int (i * j)) := opI fun _ _ _ _ _ _ _ hc q => mul_int q hc.ok
/-- // by a positive divisor -/
theorem op_fdiv : OpR X (binaryOp .FloorDiv) (rI CDiv fun i j => .int (i / j)) := opI fun i j _ _ _ _ _ hc q => by
  have h1 : (0 : Int) < j := hc.1
  have h2 : j < 1073741824 := hc.2
  exact floordiv_int (by omega) (by rw [Int.fdiv_eq_ediv_of_nonneg i (by omega)]; exact q) (.inl (PyProof.noPylong_small (by omega)))
theorem op_fdivN : OpR X (binaryOp .FloorDiv) (rI CDivN fun i j => .int (i.fdiv j)) := opI fun _ _ _ _ _ _ _ hc q => floordiv_int hc.1 q (.inl (PyProof.noPylong_small hc.2))
/-- % by a positive divisor of any size -/
theorem op_mod : OpR X (binaryOp .Mod) (rI (fun _ j => 0 < j) fun i j => .int (i % j)) := opI fun i j _ _ _ _ _ hc q => by
  have h1 : (0 : Int) < j := hc
  exact mod_int' (by omega) (by rw [Int.fmod_eq_emod_of_nonneg i (by omega)]; exact q)
theorem op_modN : OpR X (binaryOp .Mod) (rI (fun _ j => j ≠ 0) fun i j => .int (i.fmod j)) := opI fun _ _ _ _ _ _ _ hc q => mod_int' hc q
theorem op_pow : OpR X (binaryOp .Pow) (rI CPow fun i j => .int (i ^ j.toNat)) := opI fun _ _ _ _ _ _ _ hc q => pow_int_small hc.1 hc.2.1 hc.2.2 q
theorem op_shl : OpR X (binaryOp .LShift) (rI CPow fun i j => .int (i * 2 ^ j.toNat)) := opI fun _ _ _ _ _ _ _ hc q => lshift_int_small hc.1 hc.2.1 hc.2.2 q
theorem op_shr : OpR X (binaryOp .RShift) (rI (fun _ j => 0 ≤ j) fun i j => .int (i / 2 ^ j.toNat)) := opI fun i j _ _ _ _ _ hc q =>
  rshift_int hc (by rw [Int.fdiv_eq_ediv_of_nonneg i (two_pow_nn _)]; exact q)
theorem op_and : OpR X (binaryOp .BitAnd) (rI0 fun i j => .int (Builtin.bitAnd i j)) := opI0 fun _ _ _ _ _ _ _ q => and_int q
theorem op_or : OpR X (binaryOp .BitOr) (rI0 fun i j => .int (Builtin.bitOr i j)) := opI0 fun _ _ _ _ _ _ _ q => or_int q
theorem op_xor : OpR X (binaryOp .BitXor) (rI0 fun i j => .int (Builtin.bitXor i j)) := opI0 fun _ _ _ _ _ _ _ q => xor_int q

theorem iop_add : OpR X (inplaceOp .Add) (rI0 fun i j => .int (i + j)) := opI0 fun _ _ _ _ _ _ _ q => iadd_int q
theorem iop_sub : OpR X (inplaceOp .Sub) (rI0 fun i j => .int (i - j)) := opI0 fun _ _ _ _ _ _ _ q => isub_int q
theorem iop_mul : OpR X (inplaceOp .Mult) (rI CMul fun i j => .int (i * j)) := opI fun _ _ _ _ _ _ _ hc q => imul_int q hc.ok
theorem iop_fdiv : OpR X (inplaceOp .FloorDiv) (rI CDiv fun i j => .int (i / j)) := opI fun i j _ _ _ _ _ hc q => by
  have h1 : (0 : Int) < j := hc.1
  have h2 : j < 1073741824 := hc.2
  exact ifloordiv_int (by omega) (by rw [Int.fdiv_eq_ediv_of_nonneg i (by omega)]; exact q) (.inl (PyProof.noPylong_small (by omega)))
theorem iop_mod : OpR X (inplaceOp .Mod) (rI (fun _ j => 0 < j) fun i j => .int (i % j)) := opI fun i j _ _ _ _ _ hc q => by
  have h1 : (0 : Int) < j := hc
  exact imod_int (by omega) (by rw [Int.fmod_eq_emod_of_nonneg i (by omega)]; exact q)
theorem iop_shl : OpR X (inplaceOp .LShift) (rI CPow fun i j => .int (i * 2 ^ j.toNat)) := opI fun _ _ _ _ _ _ _ hc q => ilshift_int_small hc.1 hc.2.1 hc.2.2 q
theorem iop_shr : OpR X (inplaceOp .RShift) (rI (fun _ j => 0 ≤ j) fun i j => .int (i / 2 ^ j.toNat)) := opI fun i j _ _ _ _ _ hc q =>
  irshift_int hc (by rw [Int.fdiv_eq_ediv_of_nonneg i (two_pow_nn _)]; exact q)
theorem iop_and : OpR X (inplaceOp .BitAnd) (rI0 fun i j => .int (Builtin.bitAnd i j)) := opI0 fun _ _ _ _ _ _ _ q => iand_int q
theorem iop_or : OpR X (inplaceOp .BitOr) (rI0 fun i j => .int (Builtin.bitOr i j)) := opI0 fun _ _ _ _ _ _ _ q => ior_int q
theorem iop_xor : OpR X (inplaceOp .BitXor) (rI0 fun i j => .int (Builtin.bitXor i j)) := opI0 fun _ _ _ _ _ _ _ q => ixor_int q

theorem unI {f : Value → Sem Value} {g : Int → Int}
    (rule : ∀ (i : Int) (t : Tok) (s : Shared) (Q : Value → Shared → Prop) (E : Value → Shared → Prop), Q (.int (g i) s.toks) { s with toks := s.toks + 1 } → wpAny (model X.prog X.w) X.A (f (.int i t)) Q E s) :
    UnR X f (rU fun i => .int (g i)) := by
  intro pins s σ H x v Q I rx h
  obtain ⟨i, rfl, q⟩ := h
  obtain ⟨t, rfl⟩ := rx
  exact rule i t s _ _ ⟨.int (g i), H, I.tok _, ⟨_, rfl⟩, q⟩
theorem un_neg : UnR X (unaryOp .USub) (rU fun i => .int (-i)) := unI fun _ _ _ _ _ q => neg_int q
theorem un_inv : UnR X (unaryOp .Invert) (rU fun i => .int (Builtin.bitNot i)) := unI fun _ _ _ _ _ q => invert_int q

/-! ### bools among ints: n += (a < b) -/
theorem op_add_ib : OpR X (binaryOp .Add) (fun x y H Q => ∃ i k, x = .int i ∧ y = .bl k ∧ Q (.int (i + b2i k)) H) := by
  intro pins s σ H x y v u Q I rx ry h
  obtain ⟨i, k, rfl, rfl, q⟩ := h
  obtain ⟨t, rfl⟩ := rx
  cases ry
  exact add_int_bool ⟨.int (i + b2i k), H, I.tok _, ⟨_, rfl⟩, q⟩
end

/-! ### comparisons -/
/-- the scalars that == tells apart as data does -/
def scal : V → V → Bool
  | .non, .non => true | .non, .int _ => true | .int _, .non => true | .non, .bl _ => true | .bl _, .non => true | .non, .str _ => true | .str _, .non => true
  | .int _, .int _ => true | .bl _, .bl _ => true | .str _, .str _ => true | .byt _, .byt _ => true
  | .int _, .str _ => true | .str _, .int _ => true | .bl _, .str _ => true | .str _, .bl _ => true
  | _, _ => false
def rEq : R2 := fun x y H Q => scal x y = true ∧ Q (.bl (decide (x = y))) H
def rNe : R2 := fun x y H Q => scal x y = true ∧ Q (.bl (!decide (x = y))) H

theorem dec_int {i j : Int} : decide (V.int i = V.int j) = (i == j) := by
  rw [Bool.eq_iff_iff]
  simp
theorem dec_bl {i j : Bool} : decide (V.bl i = V.bl j) = (i == j) := by
  rw [Bool.eq_iff_iff]
  simp
theorem dec_str {i j : Str} : decide (V.str i = V.str j) = (i == j) := by
  rw [Bool.eq_iff_iff]
  simp
theorem dec_byt {i j : Array UInt8} : decide (V.byt i = V.byt j) = (i.toList == j.toList) := by
  rw [Bool.eq_iff_iff]
  cases i
  cases j
  simp

section
variable {X : Cx} {a b c : Expr} {ta tb tc : TE} {pos : Pos}
theorem fin_bl {pins : List (Addr × Obj)} {σ : St} {H : Hp} {s : Shared} {Q : VK} {k k' : Bool} (I : Inv X pins σ H s) (q : Q (.bl k) H) (e : k = k') : EP X pins σ Q (.bool k') s := by
  subst e
  exact ⟨.bl k, H, I, rfl, q⟩
theorem op_eq : OpR X (compareOp .Eq) rEq := by
  intro pins s σ H x y v u Q I rx ry h
  obtain ⟨hs, q⟩ := h
  cases x with
  | non =>
    cases rx
    cases y with
    | non => cases ry; exact PySem.EqNone.eq_none_none (fin_bl I q (by simp))
    | bl j => cases ry; exact PySem.EqNone.eq_none_bool (fin_bl I q (by simp))
    | int j => obtain ⟨t', rfl⟩ := ry; exact PySem.EqNone.eq_none_int (fin_bl I q (by simp))
    | str j => obtain ⟨t', rfl⟩ := ry; exact PySem.EqNone.eq_none_str (fin_bl I q (by simp))
    | _ => exact absurd (show false = true from hs) Bool.false_ne_true
  | bl i =>
    cases rx
    cases y with
    | non => cases ry; exact PySem.EqNone.eq_bool_none (fin_bl I q (by simp))
    | bl j => cases ry; exact eq_bool (fin_bl I q dec_bl)
    | str j => obtain ⟨t', rfl⟩ := ry; exact PySem.EqMixed.eq_bool_str (fin_bl I q (by simp))
    | _ => exact absurd (show false = true from hs) Bool.false_ne_true
  | int i =>
    obtain ⟨t, rfl⟩ := rx
    cases y with
    | non => cases ry; exact PySem.EqNone.eq_int_none (fin_bl I q (by simp))
    | int j => obtain ⟨t', rfl⟩ := ry; exact eq_int (fin_bl I q dec_int)
    | str j => obtain ⟨t', rfl⟩ := ry; exact PySem.EqMixed.eq_int_str (fin_bl I q (by simp))
    | _ => exact absurd (show false = true from hs) Bool.false_ne_true
  | str i =>
    obtain ⟨t, rfl⟩ := rx
    cases y with
    | non => cases ry; exact PySem.EqNone.eq_str_none (fin_bl I q (by simp))
    | bl j => cases ry; exact PySem.EqMixed.eq_str_bool (fin_bl I q (by simp))
    | int j => obtain ⟨t', rfl⟩ := ry; exact PySem.EqMixed.eq_str_int (fin_bl I q (by simp))
    | str j => obtain ⟨t', rfl⟩ := ry; exact eq_str (fin_bl I q dec_str)
    | _ => exact absurd (show false = true from hs) Bool.false_ne_true
  | byt i =>
    obtain ⟨t, rfl⟩ := rx
    cases y with
    | byt j => obtain ⟨t', rfl⟩ := ry; exact PySem.W.eq_bytes (fin_bl I q dec_byt)
    | _ => exact absurd (show false = true from hs) Bool.false_ne_true
  | _ => cases y <;> exact absurd (show false = true from hs) Bool.false_ne_true
theorem op_ne : OpR X (compareOp .NotEq) rNe := by
  intro pins s σ H x y v u Q I rx ry h
  obtain ⟨hs, q⟩ := h
  cases x with
  | non =>
    cases rx
    cases y with
    | non => cases ry; exact PySem.EqNone.ne_none_none (fin_bl I q (by simp))
    | bl j => cases ry; exact PySem.EqNone.ne_none_bool (fin_bl I q (by simp))
    | int j => obtain ⟨t', rfl⟩ := ry; exact PySem.EqNone.ne_none_int (fin_bl I q (by simp))
    | str j => obtain ⟨t', rfl⟩ := ry; exact PySem.EqNone.ne_none_str (fin_bl I q (by simp))
    | _ => exact absurd (show false = true from hs) Bool.false_ne_true
  | bl i =>
    cases rx
    cases y with
    | non => cases ry; exact PySem.EqNone.ne_bool_none (fin_bl I q (by simp))
    | bl j => cases ry; exact ne_bool (fin_bl I q (congrArg not dec_bl))
    | str j => obtain ⟨t', rfl⟩ := ry; exact PySem.EqMixed.ne_bool_str (fin_bl I q (by simp))
    | _ => exact absurd (show false = true from hs) Bool.false_ne_true
  | int i =>
    obtain ⟨t, rfl⟩ := rx
    cases y with
    | non => cases ry; exact PySem.EqNone.ne_int_none (fin_bl I q (by simp))
    | int j => obtain ⟨t', rfl⟩ := ry; exact ne_int (fin_bl I q (congrArg not dec_int))
    | str j => obtain ⟨t', rfl⟩ := ry; exact PySem.EqMixed.ne_int_str (fin_bl I q (by simp))
    | _ => exact absurd (show false = true from hs) Bool.false_ne_true
  | str i =>
    obtain ⟨t, rfl⟩ := rx
    cases y with
    | non => cases ry; exact PySem.EqNone.ne_str_none (fin_bl I q (by simp))
    | bl j => cases ry; exact PySem.EqMixed.ne_str_bool (fin_bl I q (by simp))
    | int j => obtain ⟨t', rfl⟩ := ry; exact PySem.EqMixed.ne_str_int (fin_bl I q (by simp))
    | str j => obtain ⟨t', rfl⟩ := ry; exact ne_str (fin_bl I q (congrArg not dec_str))
    | _ => exact absurd (show false = true from hs) Bool.false_ne_true
  | byt i =>
    obtain ⟨t, rfl⟩ := rx
    cases y with
    | byt j => obtain ⟨t', rfl⟩ := ry; exact PySem.W.ne_bytes (fin_bl I q (congrArg not dec_byt))
    | _ => exact absurd (show false = true from hs) Bool.false_ne_true
  | _ => cases y <;> exact absurd (show false = true from hs) Bool.false_ne_true

theorem op_lt : OpR X (compareOp .Lt) (rI0 fun i j => .bl (decide (i < j))) := opB0 fun _ _ _ _ _ _ _ q => lt_int q
theorem op_le : OpR X (compareOp .LtE) (rI0 fun i j => .bl (decide (i ≤ j))) := opB0 fun _ _ _ _ _ _ _ q => le_int q
theorem op_gt : OpR X (compareOp .Gt) (rI0 fun i j => .bl (decide (j < i))) := opB0 fun _ _ _ _ _ _ _ q => gt_int q
theorem op_ge : OpR X (compareOp .GtE) (rI0 fun i j => .bl (decide (j ≤ i))) := opB0 fun _ _ _ _ _ _ _ q => ge_int q
theorem op_lt_str : OpR X (compareOp .Lt) (fun x y H Q => ∃ i j, x = .str i ∧ y = .str j ∧ Q (.bl (decide (i.cps.toList < j.cps.toList))) H) := by
  intro pins s σ H x y v u Q I rx ry h
  obtain ⟨i, j, rfl, rfl, q⟩ := h
  obtain ⟨t, rfl⟩ := rx
  obtain ⟨t', rfl⟩ := ry
  exact lt_str (fin_bl I q rfl)
/-- the one string within the other -/
theorem op_in_str : OpR X (compareOp .In) (fun x y H Q => ∃ i j, x = .str i ∧ y = .str j ∧ Q (.bl (!(Builtin.Str.occurrences j i 0 j.length 1).isEmpty)) H) := by
  intro pins s σ H x y v u Q I rx ry h
  obtain ⟨i, j, rfl, rfl, q⟩ := h
  obtain ⟨t, rfl⟩ := rx
  obtain ⟨t', rfl⟩ := ry
  exact in_str (fin_bl I q rfl)

/-- is None, is not None: the right side a value none -/
theorem op_isN : OpR X (compareOp .Is) (fun x y H Q => y = .non ∧ Q (.bl (decide (x = .non))) H) := by
  intro pins s σ H x y v u Q I rx ry h
  obtain ⟨rfl, q⟩ := h
  cases ry
  refine is_none_gen (fin_bl I q ?_)
  cases x <;> first
    | (cases rx; rfl)
    | (obtain ⟨t, rfl⟩ := rx; rfl)
theorem op_notN : OpR X (compareOp .IsNot) (fun x y H Q => y = .non ∧ Q (.bl (!decide (x = .non))) H) := by
  intro pins s σ H x y v u Q I rx ry h
  obtain ⟨rfl, q⟩ := h
  cases ry
  refine isnot_none_gen (fin_bl I q ?_)
  cases x <;> first
    | (cases rx; rfl)
    | (obtain ⟨t, rfl⟩ := rx; rfl)

theorem op_notin_str : OpR X (compareOp .NotIn) (fun x y H Q => ∃ i j, x = .str i ∧ y = .str j ∧ Q (.bl (!(!(Builtin.Str.occurrences j i 0 j.length 1).isEmpty))) H) := by
  intro pins s σ H x y v u Q I rx ry h
  obtain ⟨i, j, rfl, rfl, q⟩ := h
  obtain ⟨t, rfl⟩ := rx
  obtain ⟨t', rfl⟩ := ry
  exact notIn_str (fin_bl I q rfl)
/-- is, is not of two objects that are tracked lists or instances -/
def isObj : HO → Bool
  | .lst _ => true
  | .ins _ _ _ => true
  | _ => false
theorem obj_there {pins : List (Addr × Obj)} {s : Shared} {σ : St} {H : Hp} {a : Addr} {o : HO} (I : Inv X pins σ H s) (h : H a = some o) (p : isObj o = true) : ∃ ob, s.heap.get? a = some ob ∧ ob.cls ≠ .type "tuple" := by
  cases o with
  | lst xs =>
    obtain ⟨_, its, n, _, e⟩ : xs.length ≤ sizeLine ∧ ∃ (its : List Value) (n : Nat), Vals xs its ∧ s.heap.get? a = some { cls := .type "list", data := .seq its.toArray n } := I.hok a _ h
    exact ⟨_, e, (by show Value.type "list" ≠ .type "tuple"; decide +kernel)⟩
  | ins C dx fs =>
    have x := I.hok a _ h
    obtain ⟨_, _, _, e, _⟩ := x
    exact ⟨_, e, (by show Value.ref C ≠ .type "tuple"; exact fun z => by cases z)⟩
  | _ => exact absurd (show false = true from p) Bool.false_ne_true
theorem op_is_ref : OpR X (compareOp .Is) (fun x y H Q => ∃ a b oa ob, x = .ref a ∧ y = .ref b ∧ H a = some oa ∧ isObj oa = true ∧ H b = some ob ∧ isObj ob = true ∧ Q (.bl (decide (a = b))) H) := by
  intro pins s σ H x y v u Q I rx ry h
  obtain ⟨a, b, oa, ob, rfl, rfl, ha, pa, hb, pb, q⟩ := h
  cases rx
  cases ry
  obtain ⟨o1, e1, n1⟩ := obj_there I ha pa
  obtain ⟨o2, e2, _⟩ := obj_there I hb pb
  by_cases z : a = b
  · subst z
    exact wpAny_is_ref_self (fin_bl I q (by simp))
  · exact wpAny_is_ref_other z e1 e2 n1 (fin_bl I q (by simp [z]))
theorem op_isnot_ref : OpR X (compareOp .IsNot) (fun x y H Q => ∃ a b oa ob, x = .ref a ∧ y = .ref b ∧ H a = some oa ∧ isObj oa = true ∧ H b = some ob ∧ isObj ob = true ∧ Q (.bl (!decide (a = b))) H) := by
  intro pins s σ H x y v u Q I rx ry h
  obtain ⟨a, b, oa, ob, rfl, rfl, ha, pa, hb, pb, q⟩ := h
  cases rx
  cases ry
  obtain ⟨o1, e1, n1⟩ := obj_there I ha pa
  obtain ⟨o2, e2, _⟩ := obj_there I hb pb
  by_cases z : a = b
  · subst z
    exact wpAny_isNot_ref_self (fin_bl I q (by simp))
  · exact wpAny_isNot_ref_other z e1 e2 n1 (fin_bl I q (by simp [z]))

/-- two rules for one operation: by cases -/
theorem OpR.or {f : Value → Value → Sem Value} {r r' : R2} (h : OpR X f r) (h' : OpR X f r') : OpR X f (fun x y H Q => r x y H Q ∨ r' x y H Q) := by
  intro pins s σ H x y v u Q I rx ry q
  rcases q with q | q
  · exact h pins s σ H x y v u Q I rx ry q
  · exact h' pins s σ H x y v u Q I rx ry q

theorem nomark (b : Expr) {op : CmpOp} (h : op ≠ .In := by decide) (h2 : op ≠ .NotIn := by decide) : behindInMarks op b = false := by
  have e1 : (op == CmpOp.In) = false := by cases op <;> first | rfl | exact absurd rfl h
  have e2 : (op == CmpOp.NotIn) = false := by cases op <;> first | rfl | exact absurd rfl h2
  cases b <;> simp [behindInMarks, e1, e2]
/-- a comparison as a value; hm: nomark b, or (for in, not in) by with_unfolding_all rfl -/
theorem pe_cmpR {op : CmpOp} {r : R2} (ho : OpR X (compareOp op) r) (ha : PE X a ta) (hb : PE X b tb) (hm : behindInMarks op b = false) : PE X (.Compare a [op] [b] pos) (tOp r ta tb) := by
  intro pins s σ H Q I h
  exact wpAny_Compare1 (binT ha hb I h fun v u s2 x y H2 I2 rx ry q => ho pins s2 σ H2 x y v u Q I2 rx ry q) hm
/-- a reading of a value as a test -/
def tTest (t : TE) : TT := fun σ H Q => t σ H fun x H' => ∃ k, x = .bl k ∧ Q k H'
theorem pt_cmpR {op : CmpOp} {r : R2} (ho : OpR X (compareOp op) r) (ha : PE X a ta) (hb : PE X b tb) (hm : behindInMarks op b = false) : PT X (.Compare a [op] [b] pos) (tTest (tOp r ta tb)) := by
  intro pins s σ H Q I h
  refine wpAny_isTrue_Compare1 (thn (ha pins s σ H _ I h) fun v s1 ⟨x, H1, I1, r1, q1⟩ => thn (hb pins s1 σ H1 _ I1 q1) fun u s2 ⟨y, H2, I2, r2, q2⟩ =>
    thn (ho pins s2 σ H2 x y v u _ I2 r1 r2 q2) fun c s3 ⟨z, H3, I3, r3, k, e, q3⟩ => ?_) hm
  subst e
  cases r3
  exact wpAny_truthy_bool ⟨H3, I3, q3⟩
/-- a op1 b op2 c -/
def tChain (r r' : R2) (ta tb tc : TE) : TE := fun σ H Q => ta σ H fun x H1 => tb σ H1 fun y H2 => r x y H2 fun z H3 => ∃ k, z = .bl k ∧
  (if k = true then tc σ H3 fun w' H4 => r' y w' H4 Q else Q (.bl false) H3)
theorem pe_chain {op op' : CmpOp} {r r' : R2} (ho : OpR X (compareOp op) r) (ho' : OpR X (compareOp op') r') (ha : PE X a ta) (hb : PE X b tb) (hc : PE X c tc)
    (hm : lastMarks [op, op'] [b, c] = false := by with_unfolding_all rfl) : PE X (.Compare a [op, op'] [b, c] pos) (tChain r r' ta tb tc) := by
  intro pins s σ H Q I h
  refine Compare_chain (thn (ha pins s σ H _ I h) fun v s1 ⟨x, H1, I1, r1, q1⟩ => chain_link (thn (hb pins s1 σ H1 _ I1 q1) fun u s2 ⟨y, H2, I2, r2, q2⟩ =>
    thn (ho pins s2 σ H2 x y v u _ I2 r1 r2 q2) fun d s3 ⟨z, H3, I3, r3, k, e, q3⟩ => ?_)) hm
  subst e
  cases r3
  refine wpAny_truthy_bool ?_
  cases k with
  | false => exact ite_ff ⟨.bl false, H3, I3, rfl, q3⟩
  | true => exact ite_tt (chain_last (thn (hc pins s3 σ H3 _ I3 q3) fun w' s4 ⟨z', H4, I4, r4, q4⟩ => ho' pins s4 σ H4 y z' u w' Q I4 r2 r4 q4))
theorem pt_chain {op op' : CmpOp} {r r' : R2} (ho : OpR X (compareOp op) r) (ho' : OpR X (compareOp op') r') (ha : PE X a ta) (hb : PE X b tb) (hc : PE X c tc)
    (hm : lastMarks [op, op'] [b, c] = false := by with_unfolding_all rfl) : PT X (.Compare a [op, op'] [b, c] pos) (tTest (tChain r r' ta tb tc)) := by
  intro pins s σ H Q I h
  refine isTrue_chain (thn (ha pins s σ H _ I h) fun v s1 ⟨x, H1, I1, r1, q1⟩ => test_link (thn (hb pins s1 σ H1 _ I1 q1) fun u s2 ⟨y, H2, I2, r2, q2⟩ =>
    thn (ho pins s2 σ H2 x y v u _ I2 r1 r2 q2) fun d s3 ⟨z, H3, I3, r3, k, e, q3⟩ => ?_)) hm
  subst e
  cases r3
  refine wpAny_truthy_bool ?_
  cases k with
  | false =>
    obtain ⟨k', e', q'⟩ := q3
    cases e'
    exact ite_ff ⟨H3, I3, q'⟩
  | true =>
    refine ite_tt (test_last (thn (hc pins s3 σ H3 _ I3 q3) fun w' s4 ⟨z', H4, I4, r4, q4⟩ => thn (ho' pins s4 σ H4 y z' u w' _ I4 r2 r4 q4) fun d' s5 ⟨z2, H5, I5, r5, k2, e2, q5⟩ => ?_))
    subst e2
    cases r5
    exact wpAny_truthy_bool ⟨H5, I5, q5⟩

/-! ### truth -/
/-- a value's truth by the abstract heap -/
def TruV (K : PySem.W.Frag) (x : V) (H : Hp) (k : Bool) : Prop :=
  match x with
  | .non => k = false
  | .bl b => k = b
  | .int i => k = (i != 0)
  | .str y => y.length ≤ sizeLine ∧ k = ((y.length : Int) != 0)
  | .byt y => y.size ≤ sizeLine ∧ k = ((y.size : Int) != 0)
  | .ref p => (∃ xs, SqL K H p xs ∧ k = !xs.isEmpty) ∨ (∃ xs, SqT K H p xs ∧ k = !xs.isEmpty) ∨ ∃ kvs, H p = some (.dK kvs) ∧ k = !kvs.isEmpty
  | _ => False
theorem isEmpty_kv {κ : Type} {kvs : List (κ × V)} {vs : List (κ × Value)} (r : KV kvs vs) : (!vs.isEmpty) = !kvs.isEmpty := by
  cases r <;> rfl
theorem isEmpty_of {xs : List V} {its : List Value} (r : Vals xs its) : (!its.toArray.isEmpty) = !xs.isEmpty := by
  cases r <;> simp
theorem line63 : (sizeLine : Nat) < 2 ^ 63 := by rw [sizeLine_eq]; decide
theorem tru_ok : TruR X (fun x H Q => ∃ k, TruV X.K x H k ∧ Q k H) := by
  intro pins s σ H x v Q I rx h
  obtain ⟨k, e, q⟩ := h
  have hl := line63
  have hs : sizeLine = 16777216 := sizeLine_eq
  cases x with
  | non =>
    cases rx
    have e' : k = false := e
    subst e'
    exact truthy_none ⟨H, I, q⟩
  | bl b =>
    cases rx
    have e' : k = b := e
    subst e'
    exact wpAny_truthy_bool ⟨H, I, q⟩
  | int i =>
    obtain ⟨t, rfl⟩ := rx
    have e' : k = (i != 0) := e
    subst e'
    exact PySem.P.truthy_int ⟨H, I, q⟩
  | str y =>
    obtain ⟨t, rfl⟩ := rx
    obtain ⟨hy, e'⟩ : y.length ≤ sizeLine ∧ k = ((y.length : Int) != 0) := e
    subst e'
    exact PySem.P.truthy_str (by omega) ⟨H, I.tok _, q⟩
  | byt y =>
    obtain ⟨t, rfl⟩ := rx
    obtain ⟨hy, e'⟩ : y.size ≤ sizeLine ∧ k = ((y.size : Int) != 0) := e
    subst e'
    exact PySem.W.truthy_bytes (by omega) ⟨H, I.tok _, q⟩
  | ref p =>
    cases rx
    have e' : (∃ xs, SqL X.K H p xs ∧ k = !xs.isEmpty) ∨ (∃ xs, SqT X.K H p xs ∧ k = !xs.isEmpty) ∨ ∃ kvs, H p = some (.dK kvs) ∧ k = !kvs.isEmpty := e
    rcases e' with ⟨xs, hx, e'⟩ | ⟨xs, hx, e'⟩ | ⟨kvs, hx, e'⟩
    · subst e'
      obtain ⟨its, r, pl, hz⟩ := I.list hx
      have hlen := r.length
      exact wpAny_truthy_list pl.isList (by simp only [List.size_toArray]; omega) ⟨H, I.tok _, by rw [isEmpty_of r]; exact q⟩
    · subst e'
      obtain ⟨its, r, pl, hz⟩ := I.tuple hx
      have hlen := r.length
      exact truthy_tuple pl (by simp only [List.size_toArray]; omega) ⟨H, I.tok _, by rw [isEmpty_of r]; exact q⟩
    · subst e'
      obtain ⟨hz, hS, vs, r, m⟩ : kvs.length ≤ sizeLine ∧ (p == sysModules) = false ∧ ∃ vs, KV kvs vs ∧ s.heap.DictOf (mixKind X.prog X.w) p vs := I.hok p _ hx
      have hlen : kvs.length = vs.length := Paired.length r
      exact wpAny_truthy_dict hS m (by omega) ⟨H, I.tok _, by rw [isEmpty_kv r]; exact q⟩
  | _ => exact (show False from e).elim
/-- any expression whose test is its value's truth (a name, a call, a subscript, a field ..: he by fun _ => rfl) -/
theorem pt_truth (ha : PE X a ta) (he : ∀ whole, isTrue a X.env whole = (do let v ← whole; standAt a.pos; holding [v] (truthy v))) :
    PT X a (fun σ H Q => ta σ H fun x H' => ∃ k, TruV X.K x H' k ∧ Q k H') := by
  intro pins s σ H Q I h
  exact isTrue_plain (thn (ha pins s σ H _ I h) fun v s1 ⟨x, H1, I1, r1, q1⟩ => tru_ok pins s1 σ H1 x v Q I1 r1 q1) (he _)

/-! ### strs and bytes -/
theorem pe_byt {x : List UInt8} {k : Nat} : PE X (.Constant (.bytes x) k pos) (fun _ H Q => Q (.byt x.toArray) H) := fun _ _ _ H _ I h => PySem.W.Constant_bytes ⟨.byt x.toArray, H, I.tok _, ⟨_, rfl⟩, h⟩
theorem op_add_str : OpR X (binaryOp .Add) (fun x y H Q => ∃ i j, x = .str i ∧ y = .str j ∧ i.length + j.length ≤ sizeLine ∧ Q (.str (i ++ j)) H) := by
  intro pins s σ H x y v u Q I rx ry h
  obtain ⟨i, j, rfl, rfl, hz, q⟩ := h
  obtain ⟨t, rfl⟩ := rx
  obtain ⟨t', rfl⟩ := ry
  exact add_str (fun t' tk => ⟨.str (i ++ j), H, I.tok _, ⟨_, rfl⟩, q⟩) hz
theorem iop_add_str : OpR X (inplaceOp .Add) (fun x y H Q => ∃ i j, x = .str i ∧ y = .str j ∧ i.length + j.length ≤ sizeLine ∧ Q (.str (i ++ j)) H) := by
  intro pins s σ H x y v u Q I rx ry h
  obtain ⟨i, j, rfl, rfl, hz, q⟩ := h
  obtain ⟨t, rfl⟩ := rx
  obtain ⟨t', rfl⟩ := ry
  exact iadd_str (fun t' tk => ⟨.str (i ++ j), H, I.tok _, ⟨_, rfl⟩, q⟩) hz
theorem op_add_byt : OpR X (binaryOp .Add) (fun x y H Q => ∃ i j, x = .byt i ∧ y = .byt j ∧ i.size + j.size ≤ 16777216 ∧ Q (.byt (i ++ j)) H) := by
  intro pins s σ H x y v u Q I rx ry h
  obtain ⟨i, j, rfl, rfl, hz, q⟩ := h
  obtain ⟨t, rfl⟩ := rx
  obtain ⟨t', rfl⟩ := ry
  exact PySem.W.KBy.add_bytes hz (fun t' tk => ⟨.byt (i ++ j), H, I.tok _, ⟨_, rfl⟩, q⟩)

def PlainIxT (b : Expr) : Prop := ∀ o i, subscripted b false o i = operate [o, i] (getItem o i)
/-- s[i], 0 ≤ i < len -/
theorem pe_item_str (ha : PE X a ta) (hb : PE X b tb) (hs : PlainIxT b) :
    PE X (.Subscript a b pos) (tOp (fun x y H Q => ∃ z i c, x = .str z ∧ y = .int i ∧ 0 ≤ i ∧ i < 2 ^ 63 ∧ i < z.length ∧ z.cps[i.toNat]? = some c ∧ Q (.str ⟨#[c]⟩) H) ta tb) := by
  intro pins s σ H Q I h
  refine Subscript_ (binT ha hb I h fun v u s2 x y H2 I2 rx ry q => ?_)
  obtain ⟨z, i, c, rfl, rfl, h0, h63, h1, hc, q⟩ := q
  obtain ⟨t, rfl⟩ := rx
  obtain ⟨t', rfl⟩ := ry
  have e : seqIndex? i z.length = some i.toNat := PySem.StrLaws.seqIndex_nonneg h0 h1
  exact tail_any (typeIs_str s2 z t) slot_str_getitem.lookup (getItem_str (c := c) (by
    have e1 : decide (i < -(2 ^ 63 : Int)) = false := decide_eq_false (by omega)
    have e2 : decide (i ≥ 2 ^ 63) = false := decide_eq_false (by omega)
    rw [e1, e2] <;> rfl) (by rw [e]; exact hc) ⟨.str ⟨#[c]⟩, H2, I2.tok _, ⟨_, rfl⟩, q⟩) (hs _ _)
/-- b[i], 0 ≤ i < len -/
theorem pe_item_byt (ha : PE X a ta) (hb : PE X b tb) (hs : PlainIxT b) :
    PE X (.Subscript a b pos) (tOp (fun x y H Q => ∃ (z : List UInt8) (i : Int), x = .byt z.toArray ∧ y = .int i ∧ z.length ≤ sizeLine ∧ 0 ≤ i ∧ i < z.length ∧ Q (.int ((z.getD i.toNat 0).toNat : Nat)) H) ta tb) := by
  intro pins s σ H Q I h
  refine Subscript_ (binT ha hb I h fun v u s2 x y H2 I2 rx ry q => ?_)
  obtain ⟨z, i, rfl, rfl, hz, h0, h1, q⟩ := q
  obtain ⟨t, rfl⟩ := rx
  obtain ⟨t', rfl⟩ := ry
  have hl : sizeLine = 16777216 := sizeLine_eq
  exact tail_any (PySem.W.typeIs_bytes s2 z.toArray t) PySem.W.FB.slot_bytes_getitem.lookup (PySem.W.getItem_bytes (by omega) h0 h1 ⟨.int ((z.getD i.toNat 0).toNat : Nat), H2, I2.tok _, ⟨_, rfl⟩, q⟩) (hs _ _)

/-! ### scalar builtins, by CallR -/
theorem vals1 {x : V} {us : List Value} (r : Vals [x] us) : ∃ u, us = [u] ∧ RelV x u := by
  cases r with
  | cons r1 r2 => cases r2; exact ⟨_, rfl, r1⟩
theorem vals2 {x y : V} {us : List Value} (r : Vals [x, y] us) : ∃ u w', us = [u, w'] ∧ RelV x u ∧ RelV y w' := by
  cases r with
  | cons r1 r2 =>
    cases r2 with
    | cons r3 r4 => cases r4; exact ⟨_, _, rfl, r1, r3⟩
theorem call_abs : CallR X (.builtin "abs") (fun xs H Q => ∃ i, xs = [.int i] ∧ Q (.int (if i < 0 then -i else i)) H) := by
  intro pins s σ H xs us Q I r h
  obtain ⟨i, rfl, q⟩ := h
  obtain ⟨u, rfl, t, rfl⟩ := vals1 r
  exact call_abs_int fun u tk => ⟨.int (if i < 0 then -i else i), H, I.tok _, ⟨_, rfl⟩, q⟩
theorem call_max2 (hc : X.calm = true) : CallR X (.builtin "max") (fun xs H Q => ∃ i j, xs = [.int i, .int j] ∧ Q (.int (if j > i then j else i)) H) := by
  intro pins s σ H xs us Q I r h
  obtain ⟨i, j, rfl, q⟩ := h
  obtain ⟨u, w', rfl, ⟨t, rfl⟩, ⟨t', rfl⟩⟩ := vals2 r
  refine max_two_ints (I.ok.hd hc) fun h' tk k => ⟨_, H, I.kept k, ?_, q⟩
  by_cases hj : j > i
  · rw [if_pos hj, if_pos hj]; exact ⟨_, rfl⟩
  · rw [if_neg hj, if_neg hj]; exact ⟨_, rfl⟩
theorem call_min2 (hc : X.calm = true) : CallR X (.builtin "min") (fun xs H Q => ∃ i j, xs = [.int i, .int j] ∧ Q (.int (if j < i then j else i)) H) := by
  intro pins s σ H xs us Q I r h
  obtain ⟨i, j, rfl, q⟩ := h
  obtain ⟨u, w', rfl, ⟨t, rfl⟩, ⟨t', rfl⟩⟩ := vals2 r
  refine min_two_ints (I.ok.hd hc) fun h' tk k => ⟨_, H, I.kept k, ?_, q⟩
  by_cases hj : j < i
  · rw [if_pos hj, if_pos hj]; exact ⟨_, rfl⟩
  · rw [if_neg hj, if_neg hj]; exact ⟨_, rfl⟩
theorem call_int1 : CallR X (.type "int") (fun xs H Q => (∃ i, xs = [.int i] ∧ Q (.int i) H) ∨ ∃ k, xs = [.bl k] ∧ Q (.int (if k then 1 else 0)) H) := by
  intro pins s σ H xs us Q I r h
  rcases h with ⟨i, rfl, q⟩ | ⟨k, rfl, q⟩
  · obtain ⟨u, rfl, t, rfl⟩ := vals1 r
    exact call_int_int ⟨.int i, H, I, ⟨_, rfl⟩, q⟩
  · obtain ⟨u, rfl, r1⟩ := vals1 r
    cases r1
    exact call_int_bool ⟨.int (if k then 1 else 0), H, I.tok _, ⟨_, rfl⟩, q⟩
theorem call_bool1 : CallR X (.type "bool") (fun xs H Q => (∃ i, xs = [.int i] ∧ Q (.bl (i != 0)) H) ∨ ∃ k, xs = [.bl k] ∧ Q (.bl k) H) := by
  intro pins s σ H xs us Q I r h
  rcases h with ⟨i, rfl, q⟩ | ⟨k, rfl, q⟩
  · obtain ⟨u, rfl, t, rfl⟩ := vals1 r
    exact call_bool_int ⟨.bl (i != 0), H, I, rfl, q⟩
  · obtain ⟨u, rfl, r1⟩ := vals1 r
    cases r1
    exact call_bool_bool ⟨.bl k, H, I, rfl, q⟩
theorem call_str_int : CallR X (.type "str") (fun xs H Q => ∃ i, xs = [.int i] ∧ i.natAbs.log2 < 1920 ∧ Q (.str (toString i)) H) := by
  intro pins s σ H xs us Q I r h
  obtain ⟨i, rfl, hz, q⟩ := h
  obtain ⟨u, rfl, t, rfl⟩ := vals1 r
  exact PySem.P.str_of_int hz ⟨.str _, H, I.tok _, ⟨_, rfl⟩, q⟩
theorem call_ord : CallR X (.builtin "ord") (fun xs H Q => ∃ x, xs = [.str x] ∧ x.length = 1 ∧ Q (.int (x.cps.getD 0 0 : Nat)) H) := by
  intro pins s σ H xs us Q I r h
  obtain ⟨x, rfl, hz, q⟩ := h
  obtain ⟨u, rfl, t, rfl⟩ := vals1 r
  exact ord_of_one hz ⟨.int _, H, I.tok _, ⟨_, rfl⟩, q⟩
theorem call_chr : CallR X (.builtin "chr") (fun xs H Q => ∃ i, xs = [.int i] ∧ 0 ≤ i ∧ i ≤ 1114111 ∧ Q (.str ⟨#[i.toNat]⟩) H) := by
  intro pins s σ H xs us Q I r h
  obtain ⟨i, rfl, h0, h1, q⟩ := h
  obtain ⟨u, rfl, t, rfl⟩ := vals1 r
  exact chr_of_range h0 h1 ⟨.str _, H, I.tok _, ⟨_, rfl⟩, q⟩
/-- len of a str, a bytes, a list, a tuple -/
def LenV (K : PySem.W.Frag) (x : V) (H : Hp) (n : Nat) : Prop :=
  match x with
  | .str y => y.length ≤ sizeLine ∧ n = y.length
  | .byt y => y.size ≤ sizeLine ∧ n = y.size
  | .ref p => (∃ xs, SqL K H p xs ∧ n = xs.length) ∨ ∃ xs, SqT K H p xs ∧ n = xs.length
  | _ => False
theorem call_len : CallR X (.builtin "len") (fun xs H Q => ∃ x n, xs = [x] ∧ LenV X.K x H n ∧ Q (.int n) H) := by
  intro pins s σ H xs us Q I r h
  obtain ⟨x, n, rfl, e, q⟩ := h
  obtain ⟨u, rfl, rx⟩ := vals1 r
  have hl := line63
  have hs : sizeLine = 16777216 := sizeLine_eq
  cases x with
  | str y =>
    obtain ⟨t, rfl⟩ := rx
    obtain ⟨hy, e'⟩ : y.length ≤ sizeLine ∧ n = y.length := e
    subst e'
    exact len_str (by omega) ⟨.int _, H, I.tok _, ⟨_, rfl⟩, q⟩
  | byt y =>
    obtain ⟨t, rfl⟩ := rx
    obtain ⟨hy, e'⟩ : y.size ≤ sizeLine ∧ n = y.size := e
    subst e'
    exact PySem.W.len_bytes (by omega) ⟨.int _, H, I.tok _, ⟨_, rfl⟩, q⟩
  | ref p =>
    cases rx
    have e' : (∃ xs, SqL X.K H p xs ∧ n = xs.length) ∨ ∃ xs, SqT X.K H p xs ∧ n = xs.length := e
    rcases e' with ⟨xs, hx, e'⟩ | ⟨xs, hx, e'⟩
    · subst e'
      obtain ⟨its, r', pl, hz⟩ := I.list hx
      have hlen := r'.length
      exact Calls.call_len_list pl.isList (by simp only [List.size_toArray]; omega) ⟨.int xs.length, H, I.tok _, ⟨_, by simp only [List.size_toArray]; rw [hlen]⟩, q⟩
    · subst e'
      obtain ⟨its, r', pl, hz⟩ := I.tuple hx
      have hlen := r'.length
      exact len_tuple pl (by simp only [List.size_toArray]; omega) ⟨.int xs.length, H, I.tok _, ⟨_, by simp only [List.size_toArray]; rw [hlen]⟩, q⟩
  | _ => exact (show False from e).elim
/-- divmod: a new tuple -/
theorem call_divmod : CallR X (.builtin "divmod") (fun xs H Q => ∃ i j, xs = [.int i, .int j] ∧ CDiv i j ∧ ∀ p, H p = none → Q (.ref p) (upd H p (.tup [.int (i / j), .int (i % j)]))) := by
  intro pins s σ H xs us Q I r h
  obtain ⟨i, j, rfl, ⟨h1, h2⟩, q⟩ := h
  obtain ⟨u, w', rfl, ⟨t, rfl⟩, ⟨t', rfl⟩⟩ := vals2 r
  refine divmod_int (by omega) ?_ (.inl (PyProof.noPylong_small (by omega)))
  rw [Int.fdiv_eq_ediv_of_nonneg i (by omega), Int.fmod_eq_emod_of_nonneg i (by omega)]
  have hn : H s.heap.objs.size = none := I.hok.fresh (Nat.le_refl _)
  refine ⟨.ref s.heap.objs.size, _, ?_, rfl, q _ hn⟩
  refine I.laid (fun b o e => Heap.get?_push_of_some _ e) (Nat.le_refl _) ⟨by simp only [List.length_cons, List.length_nil]; rw [sizeLine_eq]; decide, [.int (i / j) s.toks, .int (i % j) (s.toks + 1)], .cons ⟨_, rfl⟩ (.cons ⟨_, rfl⟩ .nil), ?_⟩
  exact ⟨_, Heap.get?_push_size s.heap rfl, rfl, 0, rfl⟩
end
end L2

namespace L2
open PySem PySem.Spec PyProof.Rows

/-! ### an instance, its attributes a map -/
structure ObjM (h : Heap) (x dx C : Addr) (mA : Str → Option Value) : Prop where
  obj : h.get? x = some (PySem.W.instObj C dx)
  ns : h.Ns1 dx mA
  ne : dx ≠ x

theorem lookIn_ns {h : Heap} {dx : Addr} {mA : Str → Option Value} (n : h.Ns1 dx mA) : ∃ od, h.get? dx = some od ∧ ∀ name, PySem.W.lookIn name od = some (mA name) := by
  obtain ⟨o, es, ep, ho, hd, hk, _, hm⟩ := n
  refine ⟨o, ho, fun name => ?_⟩
  have e := hm name
  unfold nsFind findBy at e
  rw [← Array.find?_toList] at e
  unfold PySem.W.lookIn
  rw [hd]
  dsimp only
  split
  · rename_i y q
    rw [q] at e
    exact congrArg some e
  · rename_i q
    rw [q] at e
    have a : es.toList.any (·.refKey) = false := by
      rw [List.any_eq_false]
      intro y hy
      obtain ⟨z, t, hkey⟩ := hk y (Array.mem_toList_iff.mp hy)
      simp [DictEntry.refKey, hkey]
    have a' : ¬ es.toList.any (·.refKey) = true := by rw [a]; exact Bool.false_ne_true
    rw [if_neg a']
    exact congrArg some e

theorem ObjM.look {h : Heap} {x dx C : Addr} {mA : Str → Option Value} (I : ObjM h x dx C mA) : ∃ od, PySem.W.InstAt h x (PySem.W.instObj C dx) C (some od) ∧ ∀ name, PySem.W.lookIn name od = some (mA name) :=
  let ⟨od, ho, hl⟩ := lookIn_ns I.ns
  ⟨od, ⟨I.obj, rfl, rfl, ho⟩, hl⟩

section
variable {prog : Program} {w : World} {A : Around} {E : Value → Shared → Prop} {s : Shared} {K : PySem.W.Frag} {x dx C f : Addr} {mA : Str → Option Value} {name : Str} {v : Value}

theorem get_map {expr : Bool} {Q : Value → Shared → Prop} (X : K.In s.heap) (I : ObjM s.heap x dx C mA) (hg : PySem.W.plainGet K C name = true) (hh : PySem.W.hasDictIn K C = true)
    (ha : PySem.W.findIn K (.ref C) name = some none) (hv : mA name = some v) (hv' : PySem.W.handedIn v = true) (h : Q v { s with toks := s.toks + 1 }) :
    wpAny (model prog w) A (getAttr (.ref x) name expr) Q E s := by
  obtain ⟨od, J, hl⟩ := I.look
  exact PySem.W.get_value X J (PySem.W.plainGet_of hg).1 (PySem.W.findObj_own hh ha rfl (by rw [hl, hv])) hv' h

theorem get_const {expr : Bool} {a : Value} {Q : Value → Shared → Prop} (X : K.In s.heap) (I : ObjM s.heap x dx C mA) (hg : PySem.W.plainGet K C name = true) (hh : PySem.W.hasDictIn K C = true)
    (ha : PySem.W.findIn K (.ref C) name = some (some a)) (hn : PySem.W.specialIn K a "__get__" = some none) (hc : PySem.W.copiedNames.contains name = false) (hv : mA name = none) (hv' : PySem.W.handedIn a = true)
    (h : Q a { s with toks := s.toks + 1 }) : wpAny (model prog w) A (getAttr (.ref x) name expr) Q E s := by
  obtain ⟨od, J, hl⟩ := I.look
  exact PySem.W.get_value X J (PySem.W.plainGet_of hg).1 (PySem.W.findObj_cls hh ha hn hv' hc (by rw [hl, hv])) hv' h

theorem get_meth {pl : Sem Bool} {Q : Value × List Value → Shared → Prop} (X : K.In s.heap) (I : ObjM s.heap x dx C mA) (hg : PySem.W.plainGet K C name = true)
    (hf : PySem.W.findIn K (.ref C) name = some (some (.ref f))) (ht : PySem.W.isFn K (.ref f) = true) (hv : mA name = none) (h : Q (.ref f, [.ref x]) s) :
    wpAny (model prog w) A (getMethod (.ref x) name pl) Q E s := by
  obtain ⟨od, J, hl⟩ := I.look
  exact PySem.W.method_fn X J (PySem.W.plainGet_of hg).1 (PySem.W.plainGet_of hg).2 hf (beq_iff_eq.mp ht) (by show (PySem.W.lookIn name od).map (·.isSome) = some false; rw [hl, hv]; rfl) h

theorem set_map {ns : List Str} {Q : Unit → Shared → Prop} (X : K.In s.heap) (I : ObjM s.heap x dx C mA)
    (hs : PySem.W.findIn K (.ref C) "__setattr__" = some (some (.builtin "object.__setattr__"))) (hp : PySem.W.plainOver K C = true) (ht : PySem.W.takerIn K C name = some none) (hh : PySem.W.hasDictIn K C = true)
    (hw : PySem.Within mA ns) (hsz : ns.length ≤ sizeLine)
    (h : ∀ h', ObjM h' x dx C (fun y => if y = name then some v else mA y) → Heap.SameBut dx s.heap h' → Q () { s with heap := h', toks := s.toks + 2 }) :
    wpAny (model prog w) A (setAttr (.ref x) name v) Q E s := by
  obtain ⟨od, J, hl⟩ := I.look
  refine PySem.W.set_plain X J hs (PySem.W.osa_open (s := { s with toks := s.toks + 1 }) (r := none) X J hp ht fun b => ?_)
  obtain ⟨cd, hc, hd'⟩ := PySem.W.any_some hh
  have hx : s.heap.get? x = some ⟨.ref C, some dx, .plain, #[]⟩ := I.obj
  refine wpAny_bind (wpAny_pure (wpAny_bind (wpAny_bind (wpAny_loadPart hx (wpAny_bind (PySem.W.Looks.here (s := { s with toks := s.toks + 1 }) (PySem.W.looks_clsIn X hc) ?_))))))
  rw [hd']
  refine wpAny_pure (a := some dx) (wpAny_bind (wpAny_pure (wpAny_bind ?_)))
  refine wpAny_nsSet1 (s := { s with toks := s.toks + 1 }) I.ns fun h' hn2 hs2 => ?_
  obtain ⟨oD, esD, epD, hoD, hdD, hcD⟩ := hn2.count (PySem.Within.cons name v hw)
  refine wpAny_bind (wpAny_lookBehind hoD (by rw [hdD]; exact pastItsLine_dict (Nat.le_trans hcD (by rw [List.length_cons]; omega))) ?_)
  exact wpAny_pure (h _ ⟨(hs2.2 _ (Ne.symm I.ne)).trans I.obj, hn2, I.ne⟩ hs2)

/-- C(..): the dict at the heap's end, the instance behind it; then its __init__ -/
theorem make_map {R : Result → Shared → Prop} {vs : List Value} {kw : List (Str × Value)} (X : K.In s.heap) (hm : PySem.W.makesIn K C = true)
    (hi : PySem.W.findIn K (.ref C) "__init__" = some (some (.ref f))) (hf : PySem.W.typeIn K (.ref f) = some (.type "function"))
    (h : codeAny (model prog w) (A.under (.builtin "type.__call__" ⟨.ref C :: vs, kw⟩)) (.call (.ref f) ⟨.ref (s.heap.objs.size + 1) :: vs, kw⟩) (PySem.W.InitBack (s.heap.objs.size + 1) R)
      { s with heap := (s.heap.push PySem.W.emptyDict).push (PySem.W.instObj C s.heap.objs.size) }) :
    codeAny (model prog w) A (.call (.ref C) ⟨vs, kw⟩) R s := by
  obtain ⟨hh, g, d, t, os⟩ := s
  exact PySem.W.make_core (PySem.W.makes_of X hm) (PySem.W.looks_findIn X hi) (fun self => PySem.W.bind_fn X self hf) (.inl rfl) h
/-- C() where there is no __init__ but object's -/
theorem make_map0 {R : Result → Shared → Prop} (X : K.In s.heap) (hm : PySem.W.makesIn K C = true)
    (hi : PySem.W.findIn K (.ref C) "__init__" = some (some (.builtin "object.__init__")))
    (hb : ∀ self, PySem.W.Looks (model prog w) s.heap (bindSpecial (.builtin "object.__init__") self) (.builtin "object.__init__", [self]))
    (h : codeAny (model prog w) (A.under (.builtin "type.__call__" ⟨[.ref C], []⟩)) (.call (.builtin "object.__init__") ⟨[.ref (s.heap.objs.size + 1)], []⟩) (PySem.W.InitBack (s.heap.objs.size + 1) R)
      { s with heap := (s.heap.push PySem.W.emptyDict).push (PySem.W.instObj C s.heap.objs.size) }) :
    codeAny (model prog w) A (.call (.ref C) ⟨[], []⟩) R s := by
  obtain ⟨hh, g, d, t, os⟩ := s
  exact PySem.W.make_core (PySem.W.makes_of X hm) (PySem.W.looks_findIn X hi) hb (.inr ⟨rfl, rfl⟩) h
end

/-! ### the attributes as a list of pairs -/
def putF (f : Str) (v : V) : List (Str × V) → List (Str × V)
  | [] => [(f, v)]
  | (g, x) :: r => if g = f then (g, v) :: r else (g, x) :: putF f v r
theorem lookup_putF (f g : Str) (v : V) : ∀ fs : List (Str × V), (putF f v fs).lookup g = if g = f then some v else fs.lookup g
  | [] => by
    show List.lookup g [(f, v)] = _
    by_cases h : g = f
    · have hb : (g == f) = true := beq_iff_eq.mpr h
      simp only [List.lookup, hb, if_pos h]
    · have hb : (g == f) = false := beq_eq_false_iff_ne.mpr h
      simp only [List.lookup, hb, if_neg h]
  | (k, x) :: r => by
    have ih := lookup_putF f g v r
    rw [show putF f v ((k, x) :: r) = (if k = f then (k, v) :: r else (k, x) :: putF f v r) from rfl]
    by_cases hk : k = f
    · rw [if_pos hk]
      by_cases h : g = k
      · have hb : (g == k) = true := beq_iff_eq.mpr h
        simp only [List.lookup, hb, if_pos (h.trans hk)]
      · have hb : (g == k) = false := beq_eq_false_iff_ne.mpr h
        simp only [List.lookup, hb, if_neg (fun e : g = f => h (e.trans hk.symm))]
    · rw [if_neg hk]
      by_cases h : g = k
      · have hb : (g == k) = true := beq_iff_eq.mpr h
        simp only [List.lookup, hb, if_neg (fun e : g = f => hk (h.symm.trans e))]
      · have hb : (g == k) = false := beq_eq_false_iff_ne.mpr h
        simp only [List.lookup, hb]
        exact ih
theorem keys_putF (f : Str) (v : V) : ∀ fs : List (Str × V), f ∈ (putF f v fs).map (·.1) ∧ ∀ g, g ∈ fs.map (·.1) → g ∈ (putF f v fs).map (·.1)
  | [] => ⟨by simp [putF], fun g h => by simp at h⟩
  | (k, x) :: r => by
    obtain ⟨i1, i2⟩ := keys_putF f v r
    rw [show putF f v ((k, x) :: r) = (if k = f then (k, v) :: r else (k, x) :: putF f v r) from rfl]
    by_cases hk : k = f
    · rw [if_pos hk]
      subst hk
      exact ⟨by simp, fun g h => by simpa using h⟩
    · rw [if_neg hk]
      refine ⟨?_, fun g h => ?_⟩
      · rw [List.map_cons]
        exact List.mem_cons_of_mem _ i1
      · rw [List.map_cons] at h ⊢
        rcases List.mem_cons.mp h with e | e
        · exact List.mem_cons.mpr (.inl e)
        · exact List.mem_cons_of_mem _ (i2 g e)
theorem length_putF (f : Str) (v : V) : ∀ fs : List (Str × V), (putF f v fs).length ≤ fs.length + 1
  | [] => by simp [putF]
  | (k, x) :: r => by
    have ih := length_putF f v r
    rw [show putF f v ((k, x) :: r) = (if k = f then (k, v) :: r else (k, x) :: putF f v r) from rfl]
    by_cases hk : k = f
    · rw [if_pos hk, List.length_cons, List.length_cons]; omega
    · rw [if_neg hk, List.length_cons, List.length_cons]; omega

theorem RelO.some_of {v : V} {o : Option Value} (r : RelO (some v) o) : ∃ u, o = some u ∧ RelV v u := by
  cases o with
  | none => exact (show False from r).elim
  | some u => exact ⟨u, rfl, r⟩
theorem RelO.none_of {o : Option Value} (r : RelO none o) : o = none := by
  cases o with
  | none => rfl
  | some u => exact (show False from r).elim
theorem handed_of {v : V} {u : Value} (r : RelV v u) : PySem.W.handedIn u = true := by
  cases v with
  | non => cases (show u = Value.none from r); rfl
  | bl b => cases (show u = Value.bool b from r); rfl
  | int i => obtain ⟨t, e⟩ := (show ∃ t, u = Value.int i t from r); cases e; rfl
  | str x => obtain ⟨t, e⟩ := (show ∃ t, u = Value.str x t from r); cases e; rfl
  | byt b => obtain ⟨t, e⟩ := (show ∃ t, u = Value.bytes b t from r); cases e; rfl
  | flt b => obtain ⟨t, e⟩ := (show ∃ t, u = Value.float b t from r); cases e; rfl
  | ref a => cases (show u = Value.ref a from r); rfl
  | ty n => cases (show u = Value.type n from r); rfl

section
variable {P : Program} {w : World} {H H' : Hp} {h h' : Heap} {a C dx : Addr} {fs fs' : List (Str × V)}
theorem ins_get (hok : HOk P w H h) (e : H a = some (.ins C dx fs)) : ∃ mA, ObjM h a dx C mA ∧ (∀ f, RelO (fs.lookup f) (mA f)) ∧ PySem.Within mA (fs.map (·.1)) ∧ fs.length ≤ 1000 ∧ H dx = some (.own a) := by
  obtain ⟨d, z, ne, ob, mA, n, r, q⟩ := (show ObjOk P w H h a (.ins C dx fs) from hok a _ e)
  exact ⟨mA, ⟨ob, n, ne⟩, r, q, z, d⟩
end

/-! ### what of the text a class must have -/
structure Cls (K : PySem.W.Frag) (C : Addr) : Prop where
  pg : PySem.W.plainGet K C Str.empty = true
  hd : PySem.W.hasDictIn K C = true
  po : PySem.W.plainOver K C = true
  sa : PySem.W.findIn K (.ref C) "__setattr__" = some (some (.builtin "object.__setattr__"))
theorem Cls.get {K : PySem.W.Frag} {C : Addr} (c : Cls K C) (f : Str) : PySem.W.plainGet K C f = true := c.pg
/-- no class of it has the name -/
def NoAttr (K : PySem.W.Frag) (C : Addr) (f : Str) : Prop := PySem.W.findIn K (.ref C) f = some none
theorem NoAttr.taker {K : PySem.W.Frag} {C : Addr} {f : Str} (n : NoAttr K C f) : PySem.W.takerIn K C f = some none := by
  unfold PySem.W.takerIn
  rw [show PySem.W.findIn K (.ref C) f = some none from n]
  rfl
/-- a constant of the class -/
structure Con (K : PySem.W.Frag) (C : Addr) (f : Str) (v : V) (u : Value) : Prop where
  at_ : PySem.W.findIn K (.ref C) f = some (some u)
  rel : RelV v u
  get : PySem.W.specialIn K u "__get__" = some none
  cp : PySem.W.copiedNames.contains f = false
/-- a method: a plain def of the class or of one above it -/
structure Meth (K : PySem.W.Frag) (C : Addr) (m : Str) (f : Addr) : Prop where
  at_ : PySem.W.findIn K (.ref C) m = some (some (.ref f))
  fn : PySem.W.isFn K (.ref f) = true
  kp : PySem.W.keepIn K (.ref f) = true

section
variable {X : Cx} {pins : List (Addr × Obj)} {σ : St} {H : Hp} {s : Shared} {a C dx : Addr} {fs : List (Str × V)} {f : Str} {v : V} {A : Around} {E : Value → Shared → Prop}

theorem getattr_ok {b : Bool} {Q : Value → Shared → Prop} (I : Inv X pins σ H s) (e : H a = some (.ins C dx fs)) (c : Cls X.K C) (n : NoAttr X.K C f) (l : fs.lookup f = some v)
    (h : ∀ u s', Inv X pins σ H s' → RelV v u → Q u s') : wpAny (model X.prog X.w) A (getAttr (.ref a) f b) Q E s := by
  obtain ⟨mA, O, r, _, _, _⟩ := ins_get I.hok e
  obtain ⟨u, hu, ru⟩ := RelO.some_of (v := v) (o := mA f) (by rw [← l]; exact r f)
  exact get_map I.kIn O (c.get f) c.hd n hu (handed_of ru) (h u _ (I.tok _) ru)

theorem getcon_ok {b : Bool} {u : Value} {Q : Value → Shared → Prop} (I : Inv X pins σ H s) (e : H a = some (.ins C dx fs)) (c : Cls X.K C) (k : Con X.K C f v u) (l : fs.lookup f = none)
    (h : ∀ s', Inv X pins σ H s' → Q u s') : wpAny (model X.prog X.w) A (getAttr (.ref a) f b) Q E s := by
  obtain ⟨mA, O, r, _, _, _⟩ := ins_get I.hok e
  have hn : mA f = none := RelO.none_of (by rw [← l]; exact r f)
  exact get_const I.kIn O (c.get f) c.hd k.at_ k.get k.cp hn (handed_of k.rel) (h _ (I.tok _))

theorem getmeth_ok {m : Str} {g : Addr} {pl : Sem Bool} {Q : Value × List Value → Shared → Prop} (I : Inv X pins σ H s) (e : H a = some (.ins C dx fs)) (c : Cls X.K C) (k : Meth X.K C m g) (l : fs.lookup m = none)
    (h : Q (.ref g, [.ref a]) s) : wpAny (model X.prog X.w) A (getMethod (.ref a) m pl) Q E s := by
  obtain ⟨mA, O, r, _, _, _⟩ := ins_get I.hok e
  have hn : mA m = none := RelO.none_of (by rw [← l]; exact r m)
  exact get_meth I.kIn O (c.get m) k.at_ k.fn hn h

theorem setattr_ok {y : V} {u : Value} {Q : Unit → Shared → Prop} (I : Inv X pins σ H s) (e : H a = some (.ins C dx fs)) (c : Cls X.K C) (n : NoAttr X.K C f) (hl : fs.length < 1000) (ry : RelV y u)
    (h : ∀ s', Inv X pins σ (upd H a (.ins C dx (putF f y fs))) s' → Q () s') : wpAny (model X.prog X.w) A (setAttr (.ref a) f u) Q E s := by
  obtain ⟨mA, O, r, wi, _, ho⟩ := ins_get I.hok e
  have hz : (fs.map (·.1)).length ≤ sizeLine := by rw [List.length_map, sizeLine_eq]; omega
  refine set_map I.kIn O c.sa c.po n.taker c.hd wi hz fun h' O' sb => h _ ?_
  have hd : ∃ o, h'.get? dx = some o := let ⟨o, _, _, e', _⟩ := O'.ns; ⟨o, e'⟩
  refine I.write (x := a) (e := dx) (by rw [e]; exact True.intro) (.inr ho) (fun b q hb z => (sb.2 b hb).trans z) hd ?_
  refine ⟨by rw [upd_ne O.ne]; exact ho, ?_, O.ne, O'.obj, _, O'.ns, fun g => ?_, fun g hg => ?_⟩
  · have := length_putF f y fs; omega
  · show RelO ((putF f y fs).lookup g) (if g = f then some u else mA g)
    rw [lookup_putF]
    by_cases q : g = f
    · rw [if_pos q, if_pos q]; exact ry
    · rw [if_neg q, if_neg q]; exact r g
  · by_cases q : g = f
    · rw [q]; exact (keys_putF f y fs).1
    · refine (keys_putF f y fs).2 g (wi g fun z => hg ?_)
      show (if g = f then some u else mA g) = none
      rw [if_neg q]; exact z

/-- a new instance, tracked, without attributes -/
theorem Inv.made (I : Inv X pins σ H s) : Inv X pins σ (upd (upd H s.heap.objs.size (.own (s.heap.objs.size + 1))) (s.heap.objs.size + 1) (.ins C s.heap.objs.size []))
    { s with heap := (s.heap.push PySem.W.emptyDict).push (PySem.W.instObj C s.heap.objs.size) } := by
  have e1 : (s.heap.push PySem.W.emptyDict).get? s.heap.objs.size = some PySem.W.emptyDict := Heap.get?_push_size s.heap rfl
  have e2 : ((s.heap.push PySem.W.emptyDict).push (PySem.W.instObj C s.heap.objs.size)).get? (s.heap.objs.size + 1) = some (PySem.W.instObj C s.heap.objs.size) := by
    have := Heap.get?_push_size (s.heap.push PySem.W.emptyDict) (o := PySem.W.instObj C s.heap.objs.size) rfl
    rwa [Heap.size_push] at this
  have e3 : (s.heap.push PySem.W.emptyDict).Ns s.heap.objs.size (fun _ => none) := ⟨PySem.W.emptyDict, #[], _, e1, rfl, (fun e he => absurd he (by simp)), fun _ => rfl⟩
  have I1 := I.laid (a := s.heap.objs.size) (o := .own (s.heap.objs.size + 1)) (h' := s.heap.push PySem.W.emptyDict) (t' := s.toks) (fun b u q => Heap.get?_push_of_some _ q) (Nat.le_refl _) ⟨_, e1⟩
  refine I1.laid (a := s.heap.objs.size + 1) (o := .ins C s.heap.objs.size []) (t' := s.toks) (fun b u q => Heap.get?_push_of_some _ q) (Nat.le_of_eq (Heap.size_push _ _)) ?_
  have ne : s.heap.objs.size ≠ s.heap.objs.size + 1 := Nat.ne_of_lt (Nat.lt_succ_self _)
  refine ⟨by rw [upd_ne ne, upd_same], Nat.zero_le _, ne, e2, fun _ => none, (Heap.Ns1.of_empty e3).at fun o q => Heap.get?_push_of_some _ q, fun _ => True.intro, fun y hy => absurd rfl hy⟩

/-- e.f where nothing but the object is asked: through attributeBase (super) and the last hold -/
theorem attr_of {prog : Program} {w : World} {env : Env} {e : Expr} {f : Str} {pos : Pos} {s : Shared} {Q : Value → Shared → Prop} (hb : attributeBase e f env (eval e env) = eval e env)
    (h : wpAny (model prog w) A (eval e env) (fun o s₁ => wpAny (model prog w) A (getAttr o f true) Q E s₁) E s) : wpAny (model prog w) A (eval (.Attribute e f pos) env) Q E s :=
  Attribute_any_ h (by rw [arm_eval_Attribute, hb])
end

/-! ### readings and rules -/
/-- e.f, an attribute of the instance -/
def tFld (K : PySem.W.Frag) (ta : TE) (f : Str) : TE := fun σ H Q => ta σ H fun x H1 => ∃ a C dx fs v, x = .ref a ∧ H1 a = some (.ins C dx fs) ∧ Cls K C ∧ NoAttr K C f ∧ fs.lookup f = some v ∧ Q v H1
/-- e.f, a constant of the class -/
def tCon (K : PySem.W.Frag) (ta : TE) (f : Str) : TE := fun σ H Q => ta σ H fun x H1 => ∃ a C dx fs v u, x = .ref a ∧ H1 a = some (.ins C dx fs) ∧ Cls K C ∧ Con K C f v u ∧ fs.lookup f = none ∧ Q v H1
/-- e.f = value -/
def sFld (K : PySem.W.Frag) (ta tv : TE) (f : Str) : TS := fun D σ H => tv σ H fun y H1 => ta σ H1 fun x H2 => ∃ a C dx fs, x = .ref a ∧ H2 a = some (.ins C dx fs) ∧ Cls K C ∧ NoAttr K C f ∧ fs.length < 1000 ∧
  D.nx σ (upd H2 a (.ins C dx (putF f y fs)))
/-- an augmented operator on two values -/
def InOp (X : Cx) (op : Operator) (rd : V → V → Hp → VK → Prop) : Prop :=
  ∀ (pins : List (Addr × Obj)) (s : Shared) (σ : St) (H : Hp) (x y : V) (u v : Value) (Q : VK), Inv X pins σ H s → RelV x u → RelV y v → rd x y H Q → wpAny (model X.prog X.w) X.A (inplaceOp op u v) (EP X pins σ Q) X.xe s
/-- e.f op= value -/
def sFldAug (K : PySem.W.Frag) (ta tv : TE) (rd : V → V → Hp → VK → Prop) (f : Str) : TS := fun D σ H => ta σ H fun x H1 => ∃ a C dx fs v, x = .ref a ∧ H1 a = some (.ins C dx fs) ∧ Cls K C ∧ NoAttr K C f ∧ fs.lookup f = some v ∧
  tv σ H1 fun y H2 => rd v y H2 fun z H3 => ∃ dx' fs', H3 a = some (.ins C dx' fs') ∧ fs'.length < 1000 ∧ D.nx σ (upd H3 a (.ins C dx' (putF f z fs')))

section
variable {X : Cx} {o e value : Expr} {f : Str} {pos pos' tpos : Pos} {ta tv : TE}
theorem pe_fld (he : PE X e ta) (hb : attributeBase e f X.env (eval e X.env) = eval e X.env) : PE X (.Attribute e f pos) (tFld X.K ta f) := by
  intro pins s σ H Q I h
  refine attr_of hb (thn (he pins s σ H _ I h) fun u s1 ⟨x, H1, I1, rx, a, C, dx, fs, v, ex, ea, c, n, l, q⟩ => ?_)
  subst ex
  obtain rfl : u = Value.ref a := rx
  exact getattr_ok I1 ea c n l fun u' s2 I2 ru => ⟨v, H1, I2, ru, q⟩
theorem pe_con (he : PE X e ta) (hb : attributeBase e f X.env (eval e X.env) = eval e X.env) : PE X (.Attribute e f pos) (tCon X.K ta f) := by
  intro pins s σ H Q I h
  refine attr_of hb (thn (he pins s σ H _ I h) fun u s1 ⟨x, H1, I1, rx, a, C, dx, fs, v, u0, ex, ea, c, k, l, q⟩ => ?_)
  subst ex
  obtain rfl : u = Value.ref a := rx
  exact getcon_ok I1 ea c k l fun s2 I2 => ⟨v, H1, I2, k.rel, q⟩
theorem ps_fld (ha : PE X o ta) (hv : PE X value tv) (hs : swapsWith value (some (.Attribute o f pos')) pos.line X.env = pure false) : PS X (.Assign [.Attribute o f pos'] value pos) (sFld X.K ta tv f) := by
  intro pins s σ H D I h
  refine plainObj_wpAny_Assign_Attribute (thn (hv pins s σ H _ I h) fun u s1 ⟨y, H1, I1, ry, q⟩ => thn (ha pins s1 σ H1 _ I1 q) fun ov s2 ⟨x, H2, I2, rx, a, C, dx, fs, ex, ea, c, n, l, q2⟩ => ?_) hs
  subst ex
  obtain rfl : ov = Value.ref a := rx
  exact setattr_ok I2 ea c n l ry fun s3 I3 => ⟨σ, _, I3, q2⟩
theorem ps_fldaug {op : Operator} {rd : V → V → Hp → VK → Prop} (ha : PE X o ta) (hv : PE X value tv) (hop : InOp X op rd) : PS X (.AugAssign (.Attribute o f tpos) op value pos) (sFldAug X.K ta tv rd f) := by
  intro pins s σ H D I h
  refine wpAny_AugAssign_AttributeAny (thn (ha pins s σ H _ I h) fun ov s1 ⟨x, H1, I1, rx, a, C, dx, fs, v, ex, ea, c, n, l, q⟩ => ?_)
  subst ex
  obtain rfl : ov = Value.ref a := rx
  refine getattr_ok I1 ea c n l fun u s2 I2 ru => thn (hv pins s2 σ H1 _ I2 q) fun w3 s3 ⟨y, H2, I3, ry, q3⟩ => thn (hop pins s3 σ H2 v y u w3 _ I3 ru ry q3) fun w4 s4 ⟨z, H3, I4, rz, dx', fs', ea', l', q4⟩ => ?_
  exact setattr_ok I4 ea' c n l' rz fun s5 I5 => ⟨σ, _, I5, q4⟩
def rAdd : V → V → Hp → VK → Prop := fun x y H Q => ∃ i j, x = .int i ∧ y = .int j ∧ Q (.int (i + j)) H
def rSub : V → V → Hp → VK → Prop := fun x y H Q => ∃ i j, x = .int i ∧ y = .int j ∧ Q (.int (i - j)) H
theorem in_add : InOp X .Add rAdd := by
  rintro pins s σ H x y u v Q I rx ry ⟨i, j, rfl, rfl, q⟩
  obtain ⟨t, rfl⟩ := (show ∃ t, u = Value.int i t from rx)
  obtain ⟨t', rfl⟩ := (show ∃ t', v = Value.int j t' from ry)
  exact PyProof.Rows.iadd_int ⟨.int (i + j), H, I.tok _, ⟨_, rfl⟩, q⟩
theorem in_sub : InOp X .Sub rSub := by
  rintro pins s σ H x y u v Q I rx ry ⟨i, j, rfl, rfl, q⟩
  obtain ⟨t, rfl⟩ := (show ∃ t, u = Value.int i t from rx)
  obtain ⟨t', rfl⟩ := (show ∃ t', v = Value.int j t' from ry)
  exact PyProof.Rows.isub_int ⟨.int (i - j), H, I.tok _, ⟨_, rfl⟩, q⟩

/-- what is between an instance and its method: the tree of a method call -/
theorem methcall_of {pl : Sem Bool} {m : Str} {apos : Pos} {args : List Expr} {pins : List (Addr × Obj)} {s : Shared} {σ : St} {H : Hp} {Q : Value → Shared → Prop} {te : TE} (he : PE X e te) (I : Inv X pins σ H s)
    (h : te σ H fun x H1 => ∃ a C dx fs g, x = .ref a ∧ H1 a = some (.ins C dx fs) ∧ Cls X.K C ∧ Meth X.K C m g ∧ fs.lookup m = none ∧
      ∀ s1, Inv X pins σ H1 s1 → wpAny (model X.prog X.w) X.A (callWith pos (.ref g) [.ref a] (backTo pos (starEach args X.env)) (backToKw pos (keywordEach [] X.env))) Q X.xe s1)
    (ht : eval (.Call (.Attribute e m apos) args [] pos) X.env = (do
      let ov ← eval e X.env
      standAt apos.atName
      let (f, first) ← holding [ov] (getMethod ov m pl)
      callWith pos f first (backTo pos (starEach args X.env)) (backToKw pos (keywordEach [] X.env)))) :
    wpAny (model X.prog X.w) X.A (eval (.Call (.Attribute e m apos) args [] pos) X.env) Q X.xe s := by
  refine PySem.W.methodCall_KW (pl := pl) (thn (he pins s σ H _ I h) fun u s1 ⟨x, H1, I1, rx, a, C, dx, fs, g, ex, ea, c, k, l, q⟩ => ?_) ht
  subst ex
  obtain rfl : u = Value.ref a := rx
  exact getmeth_ok I1 ea c k l (q s1 I1)
end

/-! ### isinstance -/
section
variable {X : Cx} {pins : List (Addr × Obj)} {σ : St} {H : Hp} {s : Shared} {A : Around} {E : Value → Shared → Prop} {Q : Value → Shared → Prop} {c : Value} {b : Bool}
/-- the type of a value, as the fragment's deciders take it; for an instance its class -/
inductive TyOf (K : PySem.W.Frag) (H : Hp) : V → Value → Prop where
  | non : TyOf K H .non (.type "NoneType")
  | bl (x : Bool) : TyOf K H (.bl x) (.type "bool")
  | int (i : Int) : TyOf K H (.int i) (.type "int")
  | str (x : Str) : TyOf K H (.str x) (.type "str")
  | flt (x : UInt64) : TyOf K H (.flt x) (.type "float")
  | lst {a : Addr} {xs : List V} (e : H a = some (.lst xs)) : TyOf K H (.ref a) (.type "list")
  | frz {a : Addr} {o : Obj} {xs : List V} (e : H a = some (.frz o (.lst xs))) : TyOf K H (.ref a) (.type "list")
  | tup {a : Addr} {xs : List V} (e : H a = some (.tup xs)) : TyOf K H (.ref a) (.type "tuple")
  | dK {a : Addr} {kvs : List (Key × V)} (e : H a = some (.dK kvs)) : TyOf K H (.ref a) (.type "dict")
  | dT {a : Addr} {kvs : List (List Key × V)} (e : H a = some (.dT kvs)) : TyOf K H (.ref a) (.type "dict")
  | ins {a C dx : Addr} {fs : List (Str × V)} (e : H a = some (.ins C dx fs)) (cl : Cls K C) (ha : PySem.W.findIn K (.ref C) "__class__" = some (some (.builtin "object.__class__")))
      (hn : PySem.W.specialIn K (.builtin "object.__class__") "__get__" = some (some (.builtin "getset_descriptor.__get__"))) (htk : PySem.W.takesIn K (.builtin "object.__class__") = some true)
      (hm : PySem.W.mroIn K C (.type "object") = some true) : TyOf K H (.ref a) (.ref C)
/-- isinstance(x, c) for one class c, a built-in or an own one: kitOne's answer -/
theorem isinst_ok {x : V} {u t : Value} (I : Inv X pins σ H s) (rx : RelV x u) (ty : TyOf X.K H x t) (e : PySem.W.kitOne X.K t c = some b) (h : ∀ tk, Q (.bool b) { s with toks := tk }) :
    wpAny (model X.prog X.w) A (call (.builtin "isinstance") [u, c]) Q E s := by
  cases ty with
  | non => cases (show u = Value.none from rx); exact PySem.W.kia_one PySem.W.kitx_none I.kIn True.intro e (fun z => nomatch z) h
  | bl y => cases (show u = Value.bool y from rx); exact PySem.W.kia_one PySem.W.kitx_bool I.kIn True.intro e (fun z => nomatch z) h
  | int i => obtain ⟨t, q⟩ := (show ∃ t, u = Value.int i t from rx); cases q; exact PySem.W.kia_one PySem.W.kitx_int I.kIn True.intro e (fun z => nomatch z) h
  | str y => obtain ⟨t, q⟩ := (show ∃ t, u = Value.str y t from rx); cases q; exact PySem.W.kia_one PySem.W.kitx_str I.kIn True.intro e (fun z => nomatch z) h
  | flt y => obtain ⟨t, q⟩ := (show ∃ t, u = Value.float y t from rx); cases q; exact PySem.W.kia_one PySem.W.kitx_float I.kIn True.intro e (fun z => nomatch z) h
  | @lst a xs ea =>
    cases (show u = Value.ref a from rx)
    obtain ⟨_, _, n, _, h1⟩ := (show ObjOk X.prog X.w H s.heap a (.lst xs) from I.hok a _ ea)
    exact PySem.W.kia_one PySem.W.kitx_list I.kIn ⟨_, h1, rfl⟩ e (fun z => nomatch z) h
  | @frz a ob xs ea =>
    cases (show u = Value.ref a from rx)
    obtain ⟨_, _, _, n, _, h1⟩ := (show ObjOk X.prog X.w H s.heap a (.frz ob (.lst xs)) from I.hok a _ ea)
    exact PySem.W.kia_one PySem.W.kitx_list I.kIn ⟨_, h1, rfl⟩ e (fun z => nomatch z) h
  | @tup a xs ea =>
    cases (show u = Value.ref a from rx)
    obtain ⟨_, _, _, p⟩ := (show ObjOk X.prog X.w H s.heap a (.tup xs) from I.hok a _ ea)
    obtain ⟨o, h1, h2, _⟩ := p
    exact PySem.W.kia_one PySem.W.kitx_tuple I.kIn ⟨o, h1, h2⟩ e (fun z => nomatch z) h
  | @dK a kvs ea =>
    cases (show u = Value.ref a from rx)
    obtain ⟨_, _, vs, _, p⟩ := (show ObjOk X.prog X.w H s.heap a (.dK kvs) from I.hok a _ ea)
    obtain ⟨o, es, ep, h1, h2, _⟩ := p
    exact PySem.W.kia_one PySem.W.kitx_dict I.kIn ⟨o, h1, h2.1⟩ e (fun z => nomatch z) h
  | @dT a kvs ea =>
    cases (show u = Value.ref a from rx)
    obtain ⟨_, _, xs, _, o, es, ep, h1, h2, _⟩ := (show ObjOk X.prog X.w H s.heap a (.dT kvs) from I.hok a _ ea)
    exact PySem.W.kia_one PySem.W.kitx_dict I.kIn ⟨o, h1, h2.1⟩ e (fun z => nomatch z) h
  | @ins a C dx fs ea cl ha hn htk hm =>
    cases (show u = Value.ref a from rx)
    obtain ⟨mA, O, _⟩ := ins_get I.hok ea
    obtain ⟨od, J, _⟩ := O.look
    exact PySem.W.kia_one (PySem.W.kitx_own (cl.get _) cl.hd ha hn htk hm) I.kIn J e (fun z => nomatch z) h
end
end L2

namespace L2
open PySem PySem.Spec PyProof.Rows

/-! ### room -/
structure Room (k : Nat) (A : Around) : Prop where
  hd : A.handled = none
  dp : A.depth + 3 * k + 5 < recursionLimit
  un : A.units + 16 * k + 200 < cLine
theorem Room.mono {j k : Nat} {A : Around} (r : Room k A) (h : j ≤ k) : Room j A := ⟨r.hd, by have := r.dp; omega, by have := r.un; omega⟩
theorem Room.deeper {k : Nat} {A : Around} (r : Room (k + 1) A) (env : Env) : Room k (A.deeper env) :=
  ⟨r.hd, by have := r.dp; show A.depth + 1 + 3 * k + 5 < _; omega, by have := r.un; show A.units + 3 + 16 * k + 200 < _; omega⟩
theorem Room.in1 {k : Nat} {A : Around} (r : Room (k + 1) A) : Room k A.in1 :=
  ⟨r.hd, by have := r.dp; show A.depth + 3 * k + 5 < _; omega, by have := r.un; show A.units + 1 + 16 * k + 200 < _; omega⟩
theorem make_depth {A : Around} {C : Addr} {us : List Value} {kw : List (Str × Value)} : (A.under (.builtin "type.__call__" ⟨.ref C :: us, kw⟩)).depth = A.depth + 1 := by
  first | rfl | simp [Around.under, Code.weight, Code.isCreation, Code.isGuard, Code.isCaller, Code.frames, Code.isFrame, guardIds]
theorem make_units {A : Around} {C : Addr} {us : List Value} {kw : List (Str × Value)} : (A.under (.builtin "type.__call__" ⟨.ref C :: us, kw⟩)).units = A.units + 1 := by
  first | rfl | simp [Around.under, Code.cUnits, Code.frames, Code.isFrame]
theorem Room.make {k : Nat} {A : Around} (r : Room (k + 1) A) (C : Addr) (us : List Value) (kw : List (Str × Value)) : Room k (A.under (.builtin "type.__call__" ⟨.ref C :: us, kw⟩)) :=
  ⟨r.hd, by have := r.dp; rw [make_depth]; omega, by have := r.un; rw [make_units]; omega⟩
theorem Room.depth {k : Nat} {A : Around} (r : Room k A) : A.depth < recursionLimit := by have := r.dp; omega
theorem Room.units {k : Nat} {A : Around} (r : Room k A) : A.units + 64 < cLine := by have := r.un; omega
theorem Room.units0 {k : Nat} {A : Around} (r : Room k A) : A.units < cLine := by have := r.un; omega

/-! ### argument lists and displays -/
def tNil : TA := fun _ H Q => Q [] H
def tCons (ta : TE) (tr : TA) : TA := fun σ H Q => ta σ H fun x H1 => tr σ H1 fun xs H2 => Q (x :: xs) H2
section
variable {X : Cx} {e : Expr} {es : List Expr} {te : TE} {t : TA} {pos : Pos}
theorem pa_nil : PA X [] tNil := fun _ _ _ _ H Q I h => Calls.spliced_nil ⟨[], H, I, .nil, h⟩
theorem pa_cons (ha : PE X e te) (hr : PA X es t) (hs : starEach (e :: es) X.env = (false, eval e X.env) :: starEach es X.env := by rfl) : PA X (e :: es) (tCons te t) := by
  intro pos pins s σ H Q I h
  rw [hs]
  show wpAny _ _ (spliced ((false, eval e X.env) :: backTo pos (starEach es X.env))) _ _ s
  refine Calls.spliced_cons (thn (ha pins s σ H _ I h) fun u s1 ⟨x, H1, I1, r1, q1⟩ => ?_)
  exact thn (hr pos pins s1 σ H1 _ I1 q1) fun us s2 ⟨xs, H2, I2, r2, q2⟩ => ⟨x :: xs, H2, I2, .cons r1 r2, q2⟩

/-- a tuple, a list of written items -/
def tTup (t : TA) : TE := fun σ H Q => t σ H fun xs H1 => xs.length ≤ sizeLine ∧ ∀ p, H1 p = none → Q (.ref p) (upd H1 p (.tup xs))
def tLst (t : TA) : TE := fun σ H Q => t σ H fun xs H1 => xs.length ≤ sizeLine ∧ ∀ p, H1 p = none → Q (.ref p) (upd H1 p (.lst xs))
theorem pe_tup {x1} (h : PA X es t) : PE X (.Tuple es x1 pos) (tTup t) := by
  intro pins s σ H Q I hq
  refine wpAny_Tuple_spliced (thn (h pos pins s σ H _ I hq) fun us s1 ⟨xs, H1, I1, r, z, q⟩ => ⟨by rw [← r.length]; exact z, ?_⟩)
  have hf : H1 s1.heap.objs.size = none := I1.hok.fresh (Nat.le_refl _)
  refine ⟨.ref s1.heap.objs.size, upd H1 s1.heap.objs.size (.tup xs), I1.laid (t' := s1.toks) (fun b u e => Heap.get?_push_of_some _ e) (Nat.le_refl _) ?_, rfl, q _ hf⟩
  exact ⟨z, us, r, ⟨_, Heap.get?_push_size _ rfl, rfl, _, rfl⟩⟩
theorem pe_lst (h : PA X es t) : PE X (.List es pos) (tLst t) := by
  intro pins s σ H Q I hq
  refine wpAny_List_spliced (thn (h pos pins s σ H _ I hq) fun us s1 ⟨xs, H1, I1, r, z, q⟩ => ⟨by rw [← r.length]; exact z, ?_⟩)
  have hf : H1 s1.heap.objs.size = none := I1.hok.fresh (Nat.le_refl _)
  refine ⟨.ref s1.heap.objs.size, upd H1 s1.heap.objs.size (.lst xs), I1.laid (t' := s1.toks) (fun b u e => Heap.get?_push_of_some _ e) (Nat.le_refl _) ?_, rfl, q _ hf⟩
  exact ⟨z, us, 0, r, Heap.get?_push_size _ rfl⟩
end

/-! ### what a def promises -/
/-- a def's promise: the bound arguments in the parameters' order, the heap, the wanted end, the wanted exception -/
abbrev Sp := List V → Hp → VK → XK → Prop
/-- how an exception lies behind a call (file 08 gives it): the callers' frames, abstract heap and state ahead of the call, the wish, the exception, the state -/
abbrev CXT := List Env → Hp → Shared → XK → Value → Shared → Prop

/-- the state at a call -/
structure Env0 (P : Program) (w : World) (K : PySem.W.Frag) (mg : Str → Option Value) (base : Heap) (A : Around) (outer : List Env) (s : Shared) (H : Hp) : Prop where
  frames : A.frames = some outer
  mod : Mod K mg base
  bs : ∀ b o, base.get? b = some o → s.heap.get? b = some o ∧ H b = none
  bsz : base.objs.size ≤ s.heap.objs.size
  funs : s.heap.FunFrames base outer
  frf : ∀ b ∈ frs outer, H b = none
  hok : HOk P w H s.heap
  bare : AllBare s.gens
/-- a call's end -/
def CE (outer : List Env) (P : Program) (w : World) (H : Hp) (s : Shared) (Q : VK) (u : Value) (s' : Shared) : Prop :=
  ∃ v H', s'.os = s.os ∧ AllBare s'.gens ∧ Un (frs outer) [] H H' s.heap s'.heap ∧ HOk P w H' s'.heap ∧ RelV v u ∧ Q v H'
def CR (CX : CXT) (outer : List Env) (P : Program) (w : World) (H : Hp) (s : Shared) (Q : VK) (E : XK) (r : Result) (s' : Shared) : Prop :=
  match r with
  | .ok (.ret u) => CE outer P w H s Q u s'
  | .ok _ => False
  | .error e => CX outer H s E e s'
structure FnOk (P : Program) (w : World) (K : PySem.W.Frag) (mg : Str → Option Value) (base : Heap) (CX : CXT) (k : Nat) (f : Addr) (fd : FuncData) (ps : List Str) (sp : Sp) : Prop where
  len : ∀ vs H Q E, sp vs H Q E → vs.length = ps.length
  run : ∀ (A : Around) (outer : List Env) (s : Shared) (H : Hp) (args : Args) (us : List Value) (vs : List V) (Q : VK) (E : XK), Room k A → Env0 P w K mg base A outer s H → BindsTo s fd args (ps.zip us) → Vals vs us → sp vs H Q E →
    codeAny (model P w) A (.call (.ref f) args) (CR CX outer P w H s Q E) s
theorem FnOk.mono {P : Program} {w : World} {K : PySem.W.Frag} {mg : Str → Option Value} {base : Heap} {CX : CXT} {j k : Nat} {f : Addr} {fd : FuncData} {ps : List Str} {sp : Sp} (F : FnOk P w K mg base CX j f fd ps sp) (h : j ≤ k) :
    FnOk P w K mg base CX k f fd ps sp := ⟨F.len, fun A outer s H args us vs Q E hr => F.run A outer s H args us vs Q E (hr.mono h)⟩
/-- a weaker promise -/
theorem FnOk.imp {P : Program} {w : World} {K : PySem.W.Frag} {mg : Str → Option Value} {base : Heap} {CX : CXT} {k : Nat} {f : Addr} {fd : FuncData} {ps : List Str} {sp sp' : Sp} (F : FnOk P w K mg base CX k f fd ps sp)
    (h : ∀ vs H Q E, sp' vs H Q E → sp vs H Q E) : FnOk P w K mg base CX k f fd ps sp' :=
  ⟨fun vs H Q E q => F.len vs H Q E (h _ _ _ _ q), fun A outer s H args us vs Q E hr he hb hv hs => F.run A outer s H args us vs Q E hr he hb hv (h _ _ _ _ hs)⟩

theorem Env0.make {P : Program} {w : World} {K : PySem.W.Frag} {mg : Str → Option Value} {base : Heap} {A : Around} {outer : List Env} {s : Shared} {H : Hp} (e : Env0 P w K mg base A outer s H) (C : Addr) (us : List Value) (kw : List (Str × Value)) :
    Env0 P w K mg base (A.under (.builtin "type.__call__" ⟨.ref C :: us, kw⟩)) outer s H := ⟨by first | exact e.frames | (simpa [Around.under, Code.envs, Code.isFrame, pushEnvs] using e.frames), e.mod, e.bs, e.bsz, e.funs, e.frf, e.hok, e.bare⟩
theorem Env0.in1 {P : Program} {w : World} {K : PySem.W.Frag} {mg : Str → Option Value} {base : Heap} {A : Around} {outer : List Env} {s : Shared} {H : Hp} (e : Env0 P w K mg base A outer s H) :
    Env0 P w K mg base A.in1 outer s H := ⟨e.frames, e.mod, e.bs, e.bsz, e.funs, e.frf, e.hok, e.bare⟩

section
variable {X : Cx} {pins : List (Addr × Obj)} {σ : St} {H : Hp} {s s' : Shared}
/-- from a body: what a callee wants -/
theorem Inv.env0 (I : Inv X pins σ H s) : Env0 X.prog X.w X.K X.mg X.base X.A X.stack s H :=
  ⟨I.ok.frames, I.ok.mod, I.bs, Nat.le_trans I.ok.bsz I.sz, I.stack, I.stkFree, I.hok, I.bare⟩
/-- behind a call -/
theorem Inv.after {Q : VK} {u : Value} (I : Inv X pins σ H s) (h : CE X.stack X.prog X.w H s Q u s') : EP X pins σ Q u s' := by
  obtain ⟨v, H', os, bare, un, hok, r, q⟩ := h
  obtain ⟨hh, g, d, t, os'⟩ := s'
  obtain rfl : os' = s.os := os
  exact ⟨v, H', I.call (h' := hh) (g' := g) (d' := d) (t' := t) (ch := []) un hok bare (fun b z => absurd z (by simp)), r, q⟩
end

/-! ### calls -/
/-- f(..): the written arguments, then the defaults dvs; E: what is wanted of an exception -/
def tCall (sp : Sp) (dvs : List V) (E : XK) (t : TA) : TE := fun σ H Q => t σ H fun vs H1 => sp (vs ++ dvs) H1 Q E
/-- o.m(..) of an instance of the class at C -/
def tMeth (C : Addr) (m : Str) (sp : Sp) (dvs : List V) (E : XK) (ta : TE) (t : TA) : TE := fun σ H Q => ta σ H fun x H1 => ∃ a dx fs, x = .ref a ∧ H1 a = some (.ins C dx fs) ∧ fs.lookup m = none ∧
  t σ H1 fun vs H2 => sp (x :: (vs ++ dvs)) H2 Q E
/-- C(..): a new instance and its dict, then __init__ -/
def tMake (C : Addr) (sp : Sp) (dvs : List V) (E : XK) (t : TA) : TE := fun σ H Q => t σ H fun vs H1 => ∀ x dx, H1 x = none → H1 dx = none → dx ≠ x →
  sp (.ref x :: (vs ++ dvs)) (upd (upd H1 dx (.own x)) x (.ins C dx [])) (fun v H2 => v = .non ∧ Q (.ref x) H2) E

/-- how the parameters are bound: us the positional arguments, kw the keywords' values by name, ds the defaults that fill up -/
def Binds (K : PySem.W.Frag) (fd : FuncData) (ps : List Str) (ds : List Value) : Prop :=
  ∀ (s : Shared) (us : List Value), K.In s.heap → (us ++ ds).length = ps.length → BindsTo s fd ⟨us, []⟩ (ps.zip (us ++ ds))
/-- every parameter is given -/
theorem Binds.all {K : PySem.W.Frag} {fd : FuncData} {ps : List Str} (h : ∀ us : List Value, us.length = ps.length → bindArgs fd ⟨us, []⟩ = pure (ps.zip us)) : Binds K fd ps [] := fun s us _ hl => by
  rw [List.append_nil] at hl ⊢
  exact .of_eq (h us hl)

/-- an exception of a callee reaches what this body wants of exceptions -/
def Passes (CX : CXT) (X : Cx) (E : XK) : Prop := ∀ (pins : List (Addr × Obj)) (σ : St) (H : Hp) (s : Shared) (e : Value) (s' : Shared), Inv X pins σ H s → CX X.stack H s E e s' → X.xe e s'

section
variable {X : Cx} {CX : CXT} {k : Nat} {f C : Addr} {fd : FuncData} {ps : List Str} {sp : Sp} {dvs : List V} {ds : List Value} {E : XK} {x m : Str} {p pos apos : Pos} {e o : Expr} {es : List Expr} {ta : TE} {t : TA}

/-- the callee runs -/
theorem run_fn {pins : List (Addr × Obj)} {σ : St} {H : Hp} {s : Shared} {Q : VK} {us : List Value} {vs : List V} (F : FnOk X.prog X.w X.K X.mg X.base CX k f fd ps sp) (hr : Room k X.A) (hb : Binds X.K fd ps ds) (hd : Vals dvs ds) (hx : Passes CX X E)
    (I : Inv X pins σ H s) (r : Vals vs us) (h : sp (vs ++ dvs) H Q E) : wpAny (model X.prog X.w) X.A (call (.ref f) us) (EP X pins σ Q) X.xe s := by
  have r2 : Vals (vs ++ dvs) (us ++ ds) := r.append hd
  have hl : (us ++ ds).length = ps.length := by rw [← r2.length]; exact F.len _ _ _ _ h
  refine wpAny_call (codeAny_mono (F.run X.A X.stack s H ⟨us, []⟩ (us ++ ds) (vs ++ dvs) Q E hr I.env0 (hb s us I.kIn hl) r2 h) fun r s' hq => ?_)
  cases r with
  | error e => exact hx pins σ H s e s' I hq
  | ok fl =>
    cases fl with
    | ret u => exact I.after hq
    | next => exact False.elim hq
    | brk => exact False.elim hq
    | cont => exact False.elim hq

theorem pe_call (F : FnOk X.prog X.w X.K X.mg X.base CX k f fd ps sp) (hr : Room k X.A) (hg : Gl X x) (hm : X.mg x = some (.ref f)) (hk : PySem.W.keepIn X.K (.ref f) = true) (hb : Binds X.K fd ps ds) (hd : Vals dvs ds) (hx : Passes CX X E)
    (ha : PA X (e :: es) t) (hdb : (x == ("__debug__" : Str)) = false := by decide) (he : starEach (e :: es) X.env = (false, eval e X.env) :: starEach es X.env := by rfl) (hpl : (backTo pos (starEach es X.env)).any (·.1) = false := by rfl) :
    PE X (.Call (.Name x p) (e :: es) [] pos) (tCall sp dvs E t) := by
  intro pins s σ H Q I h
  refine wpAny_Call_Name_kw (ld_glob I hg hm ?_ hdb)
  refine PySem.W.callWith_K (h₀ := X.base) I.ok.mod.kin hk (thn (ha pos pins s σ H _ I h) fun us s1 ⟨vs, H1, I1, r, q⟩ => ⟨I1.kIn, ?_⟩) he hpl
  exact run_fn F hr hb hd hx I1 r q
theorem pe_call0 (F : FnOk X.prog X.w X.K X.mg X.base CX k f fd ps sp) (hr : Room k X.A) (hg : Gl X x) (hm : X.mg x = some (.ref f)) (hk : PySem.W.keepIn X.K (.ref f) = true) (hb : Binds X.K fd ps ds) (hd : Vals dvs ds) (hx : Passes CX X E)
    (hdb : (x == ("__debug__" : Str)) = false := by decide) : PE X (.Call (.Name x p) [] [] pos) (tCall sp dvs E tNil) := by
  intro pins s σ H Q I h
  refine wpAny_Call_Name_kw (ld_glob I hg hm ?_ hdb)
  exact PySem.W.callWith_K0 I.kIn hk (run_fn (us := []) F hr hb hd hx I .nil h)

/-- o.m(e, ..) -/
theorem pe_meth {pl : Sem Bool} (he : PE X o ta) (c : Cls X.K C) (hm : Meth X.K C m f) (F : FnOk X.prog X.w X.K X.mg X.base CX k f fd ps sp) (hr : Room k X.A) (hb : Binds X.K fd ps ds) (hd : Vals dvs ds) (hx : Passes CX X E) (ha : PA X (e :: es) t)
    (hst : starEach (e :: es) X.env = (false, eval e X.env) :: starEach es X.env := by rfl) (hpl : (backTo pos (starEach es X.env)).any (·.1) = false := by rfl)
    (ht : eval (.Call (.Attribute o m apos) (e :: es) [] pos) X.env = (do
      let ov ← eval o X.env
      standAt apos.atName
      let (f, first) ← holding [ov] (getMethod ov m pl)
      callWith pos f first (backTo pos (starEach (e :: es) X.env)) (backToKw pos (keywordEach [] X.env))) := by rfl) :
    PE X (.Call (.Attribute o m apos) (e :: es) [] pos) (tMeth C m sp dvs E ta t) := by
  intro pins s σ H Q I h
  refine PySem.W.methodCall_KW (pl := pl) (thn (he pins s σ H _ I h) fun u s1 ⟨x, H1, I1, rx, a, dx, fs, ex, ea, l, q⟩ => ?_) ht
  subst ex
  obtain rfl : u = Value.ref a := rx
  refine getmeth_ok I1 ea c hm l ?_
  refine PySem.W.callWith_K (first := [.ref a]) (h₀ := X.base) I.ok.mod.kin hm.kp (thn (ha pos pins s1 σ H1 _ I1 q) fun us s2 ⟨vs, H2, I2, r, q2⟩ => ⟨I2.kIn, ?_⟩) hst hpl
  exact run_fn (us := .ref a :: us) (vs := .ref a :: vs) F hr hb hd hx I2 (.cons rfl r) q2
/-- o.m() -/
theorem pe_meth0 {pl : Sem Bool} (he : PE X o ta) (c : Cls X.K C) (hm : Meth X.K C m f) (F : FnOk X.prog X.w X.K X.mg X.base CX k f fd ps sp) (hr : Room k X.A) (hb : Binds X.K fd ps ds) (hd : Vals dvs ds) (hx : Passes CX X E)
    (ht : eval (.Call (.Attribute o m apos) [] [] pos) X.env = (do
      let ov ← eval o X.env
      standAt apos.atName
      let (f, first) ← holding [ov] (getMethod ov m pl)
      callWith pos f first (backTo pos (starEach [] X.env)) (backToKw pos (keywordEach [] X.env))) := by rfl) :
    PE X (.Call (.Attribute o m apos) [] [] pos) (tMeth C m sp dvs E ta tNil) := by
  intro pins s σ H Q I h
  refine PySem.W.methodCall_KW (pl := pl) (thn (he pins s σ H _ I h) fun u s1 ⟨x, H1, I1, rx, a, dx, fs, ex, ea, l, q⟩ => ?_) ht
  subst ex
  obtain rfl : u = Value.ref a := rx
  refine getmeth_ok I1 ea c hm l ?_
  exact PySem.W.callWith_K0 (first := [.ref a]) I1.kIn hm.kp (run_fn (us := [.ref a]) (vs := [.ref a]) F hr hb hd hx I1 (.cons rfl .nil) q)

/-- what a class must have to be made -/
structure Mk (K : PySem.W.Frag) (C f : Addr) : Prop where
  makes : PySem.W.makesIn K C = true
  init : PySem.W.findIn K (.ref C) "__init__" = some (some (.ref f))
  fn : PySem.W.isFn K (.ref f) = true
  kp : PySem.W.keepIn K (.ref C) = true

theorem run_make {pins : List (Addr × Obj)} {σ : St} {H : Hp} {s : Shared} {Q : VK} {us : List Value} {vs : List V} (M : Mk X.K C f) (F : FnOk X.prog X.w X.K X.mg X.base CX k f fd ps sp) (hr : Room (k + 1) X.A) (hb : Binds X.K fd ps ds) (hd : Vals dvs ds)
    (hx : Passes CX X E) (I : Inv X pins σ H s) (r : Vals vs us)
    (h : ∀ x dx, H x = none → H dx = none → dx ≠ x → sp (.ref x :: (vs ++ dvs)) (upd (upd H dx (.own x)) x (.ins C dx [])) (fun v H2 => v = .non ∧ Q (.ref x) H2) E) :
    wpAny (model X.prog X.w) X.A (call (.ref C) us) (EP X pins σ Q) X.xe s := by
  have hq := h (s.heap.objs.size + 1) s.heap.objs.size (I.hok.fresh (Nat.le_succ _)) (I.hok.fresh (Nat.le_refl _)) (Nat.ne_of_lt (Nat.lt_succ_self _))
  have I2 := Inv.made (C := C) I
  have r2 : Vals (V.ref (s.heap.objs.size + 1) :: (vs ++ dvs)) (Value.ref (s.heap.objs.size + 1) :: (us ++ ds)) := .cons rfl (r.append hd)
  have hl : (Value.ref (s.heap.objs.size + 1) :: us ++ ds).length = ps.length := by
    have e := r2.length
    rw [F.len _ _ _ _ hq] at e
    exact e.symm
  refine wpAny_call (make_map (f := f) I.kIn M.makes M.init (beq_iff_eq.mp M.fn) (codeAny_mono (F.run _ X.stack _ _ ⟨Value.ref (s.heap.objs.size + 1) :: us, []⟩ (Value.ref (s.heap.objs.size + 1) :: (us ++ ds)) _ _ E (hr.make C us [])
    (I2.env0.make C us []) (hb _ (Value.ref (s.heap.objs.size + 1) :: us) I2.kIn hl) r2 hq) fun r s' hq' => ?_))
  cases r with
  | error e => exact hx pins σ _ _ e s' I2 hq'
  | ok fl =>
    cases fl with
    | ret u =>
      obtain ⟨v, H', I3, rv, ev, q3⟩ := I2.after hq'
      subst ev
      exact ⟨rv, ⟨V.ref (s.heap.objs.size + 1), H', I3, rfl, q3⟩⟩
    | next => exact False.elim hq'
    | brk => exact False.elim hq'
    | cont => exact False.elim hq'
theorem pe_make (M : Mk X.K C f) (F : FnOk X.prog X.w X.K X.mg X.base CX k f fd ps sp) (hr : Room (k + 1) X.A) (hg : Gl X x) (hm : X.mg x = some (.ref C)) (hb : Binds X.K fd ps ds) (hd : Vals dvs ds) (hx : Passes CX X E)
    (ha : PA X (e :: es) t) (hdb : (x == ("__debug__" : Str)) = false := by decide) (he : starEach (e :: es) X.env = (false, eval e X.env) :: starEach es X.env := by rfl) (hpl : (backTo pos (starEach es X.env)).any (·.1) = false := by rfl) :
    PE X (.Call (.Name x p) (e :: es) [] pos) (tMake C sp dvs E t) := by
  intro pins s σ H Q I h
  refine wpAny_Call_Name_kw (ld_glob I hg hm ?_ hdb)
  refine PySem.W.callWith_K (h₀ := X.base) I.ok.mod.kin M.kp (thn (ha pos pins s σ H _ I h) fun us s1 ⟨vs, H1, I1, r, q⟩ => ⟨I1.kIn, ?_⟩) he hpl
  exact run_make M F hr hb hd hx I1 r q
theorem pe_make0 (M : Mk X.K C f) (F : FnOk X.prog X.w X.K X.mg X.base CX k f fd ps sp) (hr : Room (k + 1) X.A) (hg : Gl X x) (hm : X.mg x = some (.ref C)) (hb : Binds X.K fd ps ds) (hd : Vals dvs ds) (hx : Passes CX X E)
    (hdb : (x == ("__debug__" : Str)) = false := by decide) : PE X (.Call (.Name x p) [] [] pos) (tMake C sp dvs E tNil) := by
  intro pins s σ H Q I h
  refine wpAny_Call_Name_kw (ld_glob I hg hm ?_ hdb)
  exact PySem.W.callWith_K0 I.kIn M.kp (run_make (us := []) M F hr hb hd hx I .nil h)
end

/-! ### keywords -/
/-- the values of the keywords, from the left -/
def PK (X : Cx) (kws : List Keyword) (t : TA) : Prop :=
  ∀ (pos : Pos) (pins : List (Addr × Obj)) (s : Shared) (σ : St) (H : Hp) (Q : List V → Hp → Prop), Inv X pins σ H s → t σ H Q → wpAny (model X.prog X.w) X.A (evalAll ((backToKw pos (keywordEach kws X.env)).map (·.2))) (AP X pins σ Q) X.xe s
section
variable {X : Cx} {CX : CXT} {k : Nat} {f C : Addr} {fd : FuncData} {ps ks : List Str} {sp : Sp} {E : XK} {x m : Str} {p pos apos kpos : Pos} {e o : Expr} {es : List Expr} {kws : List Keyword} {te ta : TE} {t tk : TA} {nm : Option Str}
theorem pk_nil : PK X [] tNil := fun _ _ _ _ H Q I h => wpAny_evalAll_nil ⟨[], H, I, .nil, h⟩
theorem pk_cons (ha : PE X e te) (hr : PK X kws t) : PK X (⟨nm, e, kpos⟩ :: kws) (tCons te t) := by
  intro pos pins s σ H Q I h
  show wpAny _ _ (evalAll ((do let v ← eval e X.env; standAt pos; pure v) :: (backToKw pos (keywordEach kws X.env)).map (·.2))) _ _ s
  refine wpAny_evalAll_cons (wpAny_bind (thn (ha pins s σ H _ I h) fun u s1 ⟨x, H1, I1, r1, q1⟩ => wpAny_bind (wpAny_standAt (wpAny_pure ?_))))
  exact thn (hr pos pins s1 σ H1 _ I1 q1) fun us s2 ⟨xs, H2, I2, r2, q2⟩ => ⟨x :: xs, H2, I2, .cons r1 r2, q2⟩

/-- how a call with keywords binds: g puts the positional values us and the keywords' values ws (names ks) in the parameters' order, defaults among them -/
structure KBinds (K : PySem.W.Frag) (fd : FuncData) (ps ks : List Str) (g : List Value → List Value → List Value) (gV : List V → List V → List V) : Prop where
  to : ∀ (s : Shared) (us ws : List Value), K.In s.heap → (g us ws).length = ps.length → BindsTo s fd ⟨us, ks.zip ws⟩ (ps.zip (g us ws))
  rel : ∀ {vs : List V} {us : List Value} {zs : List V} {ws : List Value}, Vals vs us → Vals zs ws → Vals (gV vs zs) (g us ws)
def tCallK (sp : Sp) (gV : List V → List V → List V) (E : XK) (t tk : TA) : TE := fun σ H Q => t σ H fun vs H1 => tk σ H1 fun zs H2 => sp (gV vs zs) H2 Q E
variable {g : List Value → List Value → List Value} {gV : List V → List V → List V}
theorem run_fnk {pins : List (Addr × Obj)} {σ : St} {H : Hp} {s : Shared} {Q : VK} {us ws : List Value} {vs zs : List V} (F : FnOk X.prog X.w X.K X.mg X.base CX k f fd ps sp) (hr : Room k X.A) (hb : KBinds X.K fd ps ks g gV) (hx : Passes CX X E)
    (I : Inv X pins σ H s) (r : Vals vs us) (rz : Vals zs ws) (h : sp (gV vs zs) H Q E) : wpAny (model X.prog X.w) X.A (call (.ref f) us (ks.zip ws)) (EP X pins σ Q) X.xe s := by
  have r2 := hb.rel r rz
  have hl : (g us ws).length = ps.length := by rw [← r2.length]; exact F.len _ _ _ _ h
  refine wpAny_call (codeAny_mono (F.run X.A X.stack s H ⟨us, ks.zip ws⟩ (g us ws) (gV vs zs) Q E hr I.env0 (hb.to s us ws I.kIn hl) r2 h) fun r s' hq => ?_)
  cases r with
  | error e => exact hx pins σ H s e s' I hq
  | ok fl =>
    cases fl with
    | ret u => exact I.after hq
    | next => exact False.elim hq
    | brk => exact False.elim hq
    | cont => exact False.elim hq
/-- f(e, .., k = v, ..) -/
theorem pe_callK (F : FnOk X.prog X.w X.K X.mg X.base CX k f fd ps sp) (hr : Room k X.A) (hg : Gl X x) (hm : X.mg x = some (.ref f)) (hk : PySem.W.keepIn X.K (.ref f) = true) (hb : KBinds X.K fd ps ks g gV) (hx : Passes CX X E)
    (ha : PA X (e :: es) t) (hkw : PK X kws tk) (hall : (backToKw pos (keywordEach kws X.env)).all (·.1.isSome) = true := by rfl) (hks : (backToKw pos (keywordEach kws X.env)).filterMap (·.1) = ks := by rfl)
    (hdb : (x == ("__debug__" : Str)) = false := by decide) (he : starEach (e :: es) X.env = (false, eval e X.env) :: starEach es X.env := by rfl)
    (hpl : ((backTo pos (starEach (e :: es) X.env)).any (·.1) || (backToKw pos (keywordEach kws X.env)).any (·.1.isNone)) = false := by rfl) :
    PE X (.Call (.Name x p) (e :: es) kws pos) (tCallK sp gV E t tk) := by
  intro pins s σ H Q I h
  refine wpAny_Call_Name_kw (ld_glob I hg hm ?_ hdb)
  refine PySem.W.callWith_KW (h₀ := X.base) I.ok.mod.kin hk hall (thn (ha pos pins s σ H _ I h) fun us s1 ⟨vs, H1, I1, r, q⟩ => ?_) hpl he
  refine thn (hkw pos pins s1 σ H1 _ I1 q) fun ws s2 ⟨zs, H2, I2, rz, q2⟩ => ⟨I2.kIn, ?_⟩
  rw [hks]
  exact run_fnk F hr hb hx I2 r rz q2
end

/-! ### a def's body keeps its promise -/
/-- names: the parameters first -/
structure FnScope (N P : List Str) (sc : Scope) : Prop where
  kind : sc.kind = .function
  co : sc.isCoroutine = false
  gen : sc.isGenerator = false
  nd : N.Nodup
  pre : N.take P.length = P
  par : ∀ x ∈ P, sc.names.lookup x = some .local ∨ sc.names.lookup x = some .cell
  nofree : ∀ y ∈ sc.names, y.2 ≠ .free

theorem bindL_out {kindOf : Str → Option NameKind} {x : Str} : ∀ {binds : List (Str × Value)} {m : Str → Option Value}, (∀ v, (x, v) ∉ binds) → bindL kindOf binds m x = m x
  | [], _, _ => rfl
  | (n, v) :: r, m, h => by
    unfold bindL
    rw [bindL_out fun w hw => h w (List.mem_cons_of_mem _ hw)]
    split
    · have : x ≠ n := by rintro rfl; exact h v List.mem_cons_self
      simp [this]
    · rfl
theorem bindC_out {kindOf : Str → Option NameKind} {x : Str} : ∀ {binds : List (Str × Value)} {m : Str → Option Value}, (∀ v, (x, v) ∉ binds) → bindC kindOf binds m x = m x
  | [], _, _ => rfl
  | (n, v) :: r, m, h => by
    unfold bindC
    rw [bindC_out fun w hw => h w (List.mem_cons_of_mem _ hw)]
    split
    · rfl
    · have : x ≠ n := by rintro rfl; exact h v List.mem_cons_self
      simp [this]
theorem bindL_get {kindOf : Str → Option NameKind} {x : Str} {v : Value} : ∀ {P : List Str} {vs : List Value} {i : Nat} {m : Str → Option Value}, P.Nodup → P[i]? = some x → vs[i]? = some v → kindOf x = some .local →
    bindL kindOf (P.zip vs) m x = some v
  | [], _, _, _, _, h, _, _ => by simp at h
  | _ :: _, [], _, _, _, _, h, _ => by simp at h
  | p :: P, w :: vs, 0, m, nd, h1, h2, hk => by
    simp at h1 h2; subst h1; subst h2
    show bindL kindOf ((p, w) :: P.zip vs) m p = _
    unfold bindL
    rw [bindL_out fun v hv => (List.nodup_cons.mp nd).1 (List.of_mem_zip hv).1, if_pos hk]
    simp
  | p :: P, w :: vs, i + 1, m, nd, h1, h2, hk => by
    show bindL kindOf ((p, w) :: P.zip vs) m x = _
    unfold bindL
    exact bindL_get (i := i) (List.nodup_cons.mp nd).2 (by simpa using h1) (by simpa using h2) hk
theorem bindC_get {kindOf : Str → Option NameKind} {x : Str} {v : Value} : ∀ {P : List Str} {vs : List Value} {i : Nat} {m : Str → Option Value}, P.Nodup → P[i]? = some x → vs[i]? = some v → kindOf x ≠ some .local →
    bindC kindOf (P.zip vs) m x = some v
  | [], _, _, _, _, h, _, _ => by simp at h
  | _ :: _, [], _, _, _, _, h, _ => by simp at h
  | p :: P, w :: vs, 0, m, nd, h1, h2, hk => by
    simp at h1 h2; subst h1; subst h2
    show bindC kindOf ((p, w) :: P.zip vs) m p = _
    unfold bindC
    rw [bindC_out fun v hv => (List.nodup_cons.mp nd).1 (List.of_mem_zip hv).1, if_neg hk]
    simp
  | p :: P, w :: vs, i + 1, m, nd, h1, h2, hk => by
    show bindC kindOf ((p, w) :: P.zip vs) m x = _
    unfold bindC
    exact bindC_get (i := i) (List.nodup_cons.mp nd).2 (by simpa using h1) (by simpa using h2) hk

/-- the names' values at the entry -/
def start (N : List Str) (vs : List V) : St := vs.map some ++ List.replicate (N.length - vs.length) none

/-- the context of a def's body, at its entry; an exception leaves the frame, then lies as CX says -/
def cxOf (CX : CXT) (P : Program) (w : World) (K : PySem.W.Frag) (mg : Str → Option Value) (base : Heap) (N : List Str) (qual : Str) (scope : Scope) (f : Addr) (cd : Value) (A : Around) (outer : List Env) (s : Shared) (H : Hp) (E : XK) : Cx where
  prog := P
  w := w
  K := K
  mg := mg
  base := base
  A := A.deeper (envOfC qual scope s.heap.objs.size f cd)
  N := N
  s₀ := s
  H₀ := H
  env := envOfC qual scope s.heap.objs.size f cd
  outer := outer
  stack := envOfC qual scope s.heap.objs.size f cd :: outer
  ex := []
  calm := true
  fn := fun _ => true
  pn := []
  xe := fun e s' => wpAny (model P w) (A.deeper (envOfC qual scope s.heap.objs.size f cd)) (leaving (envOfC qual scope s.heap.objs.size f cd) e) (fun _ s'' => CX outer H s E e s'') (fun e' s'' => CX outer H s E e' s'') s'

theorem cell_has {sc : Scope} {n : Nat} {x : Str} (h : sc.names.lookup x = some .cell) : ∃ c, (cellsFrom n sc.names []).lookup x = some c := by
  have q := PySem.W.cellsFrom_some sc.names n [] (.inl h)
  exact Option.isSome_iff_exists.mp q

theorem inv_start {CX : CXT} {P : Program} {w : World} {K : PySem.W.Frag} {mg : Str → Option Value} {base : Heap} {N ps : List Str} {qual : Str} {scope : Scope} {f : Addr} {cd : Value} {A : Around} {outer : List Env} {s s1 : Shared} {H : Hp} {E : XK} {us : List Value} {vs : List V}
    (S : FnScope N ps scope) (hd : A.handled = none) (e0 : Env0 P w K mg base A outer s H) (hl : vs.length = ps.length) (r : Vals vs us)
    (x : InCallC s s.heap.objs.size (bindL (envOfC qual scope s.heap.objs.size f cd).kindOf (ps.zip us) fun _ => none) (cellsFrom (s.heap.objs.size + 1) scope.names []) (bindC (envOfC qual scope s.heap.objs.size f cd).kindOf (ps.zip us) fun _ => none) s1) :
    Inv (cxOf CX P w K mg base N qual scope f cd A outer s H E) [] (start N vs) H s1 := by
  have hpl : ps.length ≤ N.length := by have := congrArg List.length S.pre; rw [List.length_take] at this; omega
  obtain ⟨h1, tk, rfl, hk⟩ := x.done
  have noA : ∀ b : Addr, b ∉ (cxOf CX P w K mg base N qual scope f cd A outer s H E).ex := fun b z => absurd (show b ∈ ([] : List Addr) from z) (by simp)
  refine ⟨⟨e0.mod, S.kind, rfl, rfl, Nat.le_refl _, fun y z c h1 h2 => ?_, fun y hy => ?_, fun y c _ h => ?_, fun _ => hd, Around.frames_deeper e0.frames, .inr ⟨rfl, rfl⟩, fun b z => absurd z (noA b), e0.bs, e0.bsz, fun b _ _ => noA b, fun b z => absurd z (noA b), e0.funs, e0.frf⟩,
    rfl, e0.bare, Un.kept hk, ⟨_, x.toInCall.ns, fun i y v h1 h2 h3 => ?_⟩, fun y c h => ⟨_, x.cell y c h⟩, e0.hok.fresh (Nat.le_refl _), fun y c h => ?_, fun p hp => absurd (show p ∈ ([] : List (Addr × Obj)) from hp) (by simp), e0.hok.kept hk, ?_⟩
  · exact name_of_addr x.apart (PySem.mem_of_lookup h1) (PySem.mem_of_lookup h2)
  · have hy : scope.names.lookup y = some .cell ∨ scope.names.lookup y = some .free := hy
    rcases hy with hy | hy
    · exact cell_has hy
    · exact absurd rfl (S.nofree _ (PySem.mem_of_lookup hy))
  · exact Nat.le_of_lt (x.above y c (PySem.mem_of_lookup h))
  · have hi : i < vs.length := by
      unfold start at h2
      by_cases hi : i < vs.length
      · exact hi
      · rw [List.getElem?_append_right (by simpa using hi)] at h2
        rw [List.getElem?_replicate] at h2
        split at h2 <;> cases h2
    have ha : vs[i]? = some v := by
      unfold start at h2
      rw [List.getElem?_append_left (by simpa using hi), List.getElem?_map] at h2
      cases e : vs[i]? with
      | none => rw [e] at h2; cases h2
      | some a => rw [e] at h2; cases h2; rfl
    obtain ⟨u, hu, rv⟩ := r.get ha
    have hp : ps[i]? = some y := by
      rw [← S.pre, List.getElem?_take_of_lt (by omega)]; exact h1
    have ndP : ps.Nodup := by rw [← S.pre]; exact S.nd.sublist (List.take_sublist _ _)
    refine ⟨u, rv, ?_⟩
    rcases S.par y (List.mem_of_getElem? hp) with k | k
    · exact .inl ⟨k, bindL_get ndP hp hu k⟩
    · obtain ⟨c, e⟩ := cell_has (n := s.heap.objs.size + 1) k
      refine .inr ⟨.inl k, c, e, ?_⟩
      have q := x.cell y c e
      rw [bindC_get ndP hp hu (by show scope.names.lookup y ≠ _; rw [k]; decide)] at q
      exact q
  · exact e0.hok.fresh (Nat.le_of_lt (x.above y c (PySem.mem_of_lookup h)))
  · unfold start
    show _ = N.length
    rw [List.length_append, List.length_map, List.length_replicate]
    omega

/-- THE RULE: a def (or a method) of the text, by its body. The body's reading t is chosen for each entry; it is run at the parameters' values -/
theorem fn_of {CX : CXT} {P : Program} {w : World} {K : PySem.W.Frag} {mg : Str → Option Value} {base : Heap} {k : Nat} {f : Addr} {name qual : Str} {params : Arguments} {body : List Stmt} {scope : Scope} {dV kV doc pm cdv ct oc : Value} {an od : Option Addr}
    {osl : Array (Option Value)} {N ps : List Str} {sp : Sp} (lk : K.lookup f = some ⟨oc, od, .func (PySem.W.fnOf name qual params body scope dV kV doc pm an cdv ct), osl⟩) (hcd : PySem.W.codeIn K cdv qual = true) (S : FnScope N ps scope)
    (len : ∀ vs H Q E, sp vs H Q E → vs.length = ps.length)
    (hbody : ∀ (A : Around) (outer : List Env) (s : Shared) (H : Hp) (vs : List V) (Q : VK) (E : XK), Room k (A.deeper (envOfC qual scope s.heap.objs.size f cdv)) → sp vs H Q E →
      ∃ t, PSs (cxOf CX P w K mg base N qual scope f cdv A outer s H E) body t ∧ t { nx := fun _ H' => Q .non H', rt := Q } (start N vs) H) :
    FnOk P w K mg base CX (k + 1) f (PySem.W.fnOf name qual params body scope dV kV doc pm an cdv ct) ps sp := by
  refine ⟨len, fun A outer s H args us vs Q E hr e0 hb r hsp => ?_⟩
  have hl := len _ _ _ _ hsp
  have KX : K.In s.heap := e0.mod.kin.keeps fun b o e => (e0.bs b o e).1
  have lim : s.heap.NoLimit := e0.mod.nolimit.keeps fun b o e => (e0.bs b o e).1
  have hkind : ∀ y ∈ ps.zip us, scope.names.lookup y.1 = some .local ∨ (scope.names.lookup y.1 = some .cell ∧ ((cellsFrom (s.heap.objs.size + 1) scope.names []).lookup y.1).isSome = true) := fun ⟨n, v⟩ hy => by
    rcases S.par n (List.of_mem_zip hy).1 with q | q
    · exact .inl q
    · exact .inr ⟨q, PySem.W.cellsFrom_some _ _ _ (.inl q)⟩
  refine codeAny_call_function hr.depth (KX _ _ lk) rfl S.co S.gen rfl (PySem.W.codeRec_of KX hcd) (hb _ _ _ _ ?_)
  refine wpAny_newFunctionEnv_cells S.kind hkind fun env he s1 x => ?_
  subst he
  refine ⟨lim.keeps x.toInCall.keep, codeAny_func ?_⟩
  obtain ⟨t, ht, hq⟩ := hbody A outer s H vs Q E (hr.deeper _) hsp
  have I : Inv (cxOf CX P w K mg base N qual scope f cdv A outer s H E) [] (start N vs) H s1 := inv_start S hr.hd e0 hl r x
  refine wpAny_mono (ht [] s1 (start N vs) H _ I hq) (fun fl s' hs => ?_) fun e s' hs => hs
  have fin : ∀ {σ' : St} {H' : Hp} {v : V} {u : Value}, Inv (cxOf CX P w K mg base N qual scope f cdv A outer s H E) [] σ' H' s' → RelV v u → Q v H' → CE outer P w H s Q u s' :=
    fun {σ' H' v u} J rv q => ⟨v, H', J.os, J.bare, J.base, J.hok, rv, q⟩
  cases fl with
  | ret u =>
    obtain ⟨v, σ', H', J, rv, q⟩ := hs
    exact fin J rv q
  | next =>
    obtain ⟨σ', H', J, q⟩ := hs
    exact fin (v := V.non) (u := Value.none) J rfl q
  | brk =>
    obtain ⟨_, _, _, q⟩ := hs
    exact False.elim q
  | cont =>
    obtain ⟨_, _, _, q⟩ := hs
    exact False.elim q
end L2

namespace L2
open PySem PySem.Spec PyProof.Rows
section
variable {X : Cx} {x : Str} {p pos : Pos} {e : Expr} {es : List Expr} {t : TA} {id T : String} {r : List V → Hp → VK → Prop}

def tCB (r : List V → Hp → VK → Prop) (t : TA) : TE := fun σ H Q => t σ H fun vs H1 => r vs H1 Q
/-- f(e, ..), f a built-in function -/
theorem pe_callB (hc : CallR X (.builtin id) r) (hg : Gl X x) (hm : X.mg x = none) (hv : bootBuiltins x = some (.builtin id)) (ha : PA X (e :: es) t) (hn : x ≠ "__name__" := by decide) (hdb : (x == ("__debug__" : Str)) = false := by decide)
    (he : starEach (e :: es) X.env = (false, eval e X.env) :: starEach es X.env := by rfl) (hpl : (backTo pos (starEach es X.env)).any (·.1) = false := by rfl) : PE X (.Call (.Name x p) (e :: es) [] pos) (tCB r t) := by
  intro pins s σ H Q I h
  refine wpAny_Call_Name_kw (ld_blt I hg hm hv ?_ hn hdb)
  exact PyProof.Rows.callWith_builtin1 (thn (ha pos pins s σ H _ I h) fun us s1 ⟨vs, H1, I1, r1, q1⟩ => hc pins s1 σ H1 vs us Q I1 r1 q1) he hpl
/-- T(e, ..), T a built-in type -/
theorem pe_callTy (hc : CallR X (.type T) r) (hg : Gl X x) (hm : X.mg x = none) (hv : bootBuiltins x = some (.type T)) (ha : PA X (e :: es) t) (hn : x ≠ "__name__" := by decide) (hdb : (x == ("__debug__" : Str)) = false := by decide)
    (he : starEach (e :: es) X.env = (false, eval e X.env) :: starEach es X.env := by rfl) (hpl : (backTo pos (starEach es X.env)).any (·.1) = false := by rfl) : PE X (.Call (.Name x p) (e :: es) [] pos) (tCB r t) := by
  intro pins s σ H Q I h
  refine wpAny_Call_Name_kw (ld_blt I hg hm hv ?_ hn hdb)
  exact PyProof.Rows.callWith_type1 (thn (ha pos pins s σ H _ I h) fun us s1 ⟨vs, H1, I1, r1, q1⟩ => hc pins s1 σ H1 vs us Q I1 r1 q1) he hpl
/-- T() -/
theorem pe_callTy0 (hc : CallR X (.type T) r) (hg : Gl X x) (hm : X.mg x = none) (hv : bootBuiltins x = some (.type T)) (hn : x ≠ "__name__" := by decide) (hdb : (x == ("__debug__" : Str)) = false := by decide) :
    PE X (.Call (.Name x p) [] [] pos) (tCB r tNil) := by
  intro pins s σ H Q I h
  refine wpAny_Call_Name_kw (ld_blt I hg hm hv ?_ hn hdb)
  exact PyProof.Rows.callWith_type0 (hc pins s σ H [] [] Q I .nil h)
end
end L2

namespace HT
open PySem PyProof.Rows

/-- t < u of tuples of ints -/
def lexLt : List Int → List Int → Bool
  | [], [] => false
  | [], _ :: _ => true
  | _ :: _, [] => false
  | x :: xs, y :: ys => if x = y then lexLt xs ys else decide (x < y)
theorem lexLt_cons (x y : Int) (xs ys : List Int) : lexLt (x :: xs) (y :: ys) = if x = y then lexLt xs ys else decide (x < y) := rfl
theorem lexLt_nil_nil : lexLt [] [] = false := rfl
theorem lexLt_nil_cons (y : Int) (ys : List Int) : lexLt [] (y :: ys) = true := rfl
theorem lexLt_cons_nil (x : Int) (xs : List Int) : lexLt (x :: xs) [] = false := rfl

theorem eqAt_int (A : Around) (s : Shared) (a : Int) (t : Tok) (c : Int) (u : Tok) : ∃ e, SeqAt.EqAt A s (.int a t) (.int c u) e ∧ (e = true ↔ a = c) :=
  ⟨(a == c), SeqAt.EqAt.int_int a t c u, by simp⟩
theorem rcLt_int (A : Around) (s : Shared) (a : Int) (t : Tok) (c : Int) (u : Tok) (prog : Program) (w : World) (E : Value → Shared → Prop) (Q : Value → Shared → Prop) (h : Q (.bool (decide (a < c))) s) :
    wpAny (model prog w) A (richCompare .Lt (.int a t) (.int c u)) Q E s :=
  (PyProof.Rows.lt_int h : wpAny (model prog w) A (compareOp .Lt (.int a t) (.int c u)) Q E s)

section
open PySem.SeqAt
open PySem.AutoSeq1 (wpAny_loadPart')
open PySem.MeetsSeq PySem.MeetsSeq2 PySem.MeetsSeq3

theorem tuple_lt_ints (l b : Addr) (items items2 : Array Value) (n n2 : Nat) (dd dd2 : Option Addr) (sl sl2 : Array (Option Value)) (ns ms : List Int) (hi : IntsAre items.toList ns) (hj : IntsAre items2.toList ms) :
    Meets (Builtin.«tuple.__lt__» ⟨[.ref l, .ref b], []⟩)
      (fun _ R s => s.heap.get? l = some { cls := .type "tuple", dict := dd, data := .seq items n, slots := sl } ∧ s.heap.get? b = some { cls := .type "tuple", dict := dd2, data := .seq items2 n2, slots := sl2 } ∧
        R (.ok (.ret (.bool (lexLt ns ms)))) s) :=
  .of_wp fun prog w A R s h => by
    obtain ⟨hp, g, d, tk, os⟩ := s; obtain ⟨hl, hb, h⟩ := h
    have f2 := AutoSeq1.sub_tuple_tuple
    have z1 : items.size = ns.length := by rw [← hi.length]; simp
    have z2 : items2.size = ms.length := by rw [← hj.length]; simp
    wp_walk using wpAny_loadPart' hl, wpAny_loadPart' hb, wpAny_forIn_list _ (fun rest b s' => b.1 = none ∧ s' = ⟨hp, g, d, tk, os⟩ ∧ ∃ (vs ws : List Value) (ns' ms' : List Int), rest = vs.zip ws ∧
      IntsAre vs ns' ∧ IntsAre ws ms' ∧ ns'.length + items2.size = ms'.length + items.size ∧ R (.ok (.ret (.bool (lexLt ns' ms')))) ⟨hp, g, d, tk, os⟩) _
    case turn =>
      rintro ⟨y, x⟩ rest b s' ⟨hb', rfl, vs, ws, ns', ms', hz, hvi, hwi, hlen, hR⟩
      cases hvi with
      | nil => rw [List.zip_nil_left] at hz; cases hz
      | cons a t hvi' =>
        cases hwi with
        | nil => rw [List.zip_nil_right] at hz; cases hz
        | cons c u hwi' =>
          rw [List.zip_cons_cons] at hz
          injection hz with hyx hrest
          injection hyx with hy hx
          subst hy hx
          rw [lexLt_cons] at hR
          simp only [List.length_cons] at hlen
          obtain ⟨e, he, hiff⟩ := eqAt_int A.in1 ⟨hp, g, d, tk, os⟩ a t c u
          refine wpAny_bind (he prog w _ _ ?_)
          cases e with
          | true =>
            rw [if_pos (hiff.mp rfl)] at hR
            wp_walk
            exact ⟨rfl, rfl, _, _, _, _, hrest, hvi', hwi', by omega, hR⟩
          | false =>
            rw [if_neg (fun q => absurd (hiff.mpr q) Bool.false_ne_true)] at hR
            have hri := rcLt_int A.in1 ⟨hp, g, d, tk, os⟩ a t c u prog w
            wp_walk using hri
            exact ⟨_, rfl, by simpa using hR⟩
    case fin =>
      rintro ⟨b1, b2⟩ s' ⟨hb', rfl, vs, ws, ns', ms', hz, hvi, hwi, hlen, hR⟩
      simp only at hb'
      subst hb'
      have hv : lexLt ns' ms' = decide (items.size < items2.size) := by
        cases hvi with
        | nil =>
          cases hwi with
          | nil =>
            simp only [List.length_nil] at hlen
            rw [lexLt_nil_nil]
            exact (decide_eq_false (by omega)).symm
          | cons c u hw =>
            simp only [List.length_nil, List.length_cons] at hlen
            rw [lexLt_nil_cons]
            exact (decide_eq_true (by omega)).symm
        | cons a t hv =>
          cases hwi with
          | nil =>
            simp only [List.length_nil, List.length_cons] at hlen
            rw [lexLt_cons_nil]
            exact (decide_eq_false (by omega)).symm
          | cons c u hw =>
            rw [List.zip_cons_cons] at hz
            cases hz
      rw [hv] at hR
      wp_walk
      exact ⟨_, rfl, by simpa [Builtin.Tuple.tupleCompareSizes] using hR⟩
    case h =>
      exact ⟨rfl, rfl, items.toList, items2.toList, ns, ms, rfl, hi, hj, by omega, h⟩
end

section
variable {prog : Program} {w : World} {A : Around} {E : Value → Shared → Prop} {s : Shared}

theorem lt_tupInts {l b : Addr} {items items2 : Array Value} {ns ms : List Int} {Q : Value → Shared → Prop} (hl : IsTup s.heap l items) (hb : IsTup s.heap b items2) (hi : IntsAre items.toList ns) (hj : IntsAre items2.toList ms)
    (hu : A.units < cLine) (h : Q (.bool (lexLt ns ms)) s) : wpAny (model prog w) A (compareOp .Lt (.ref l) (.ref b)) Q E s := by
  obtain ⟨⟨cls, dd, data, sl⟩, ho, hc, n, hd⟩ := id hl
  obtain ⟨⟨cls2, dd2, data2, sl2⟩, ho2, hc2, n2, hd2⟩ := id hb
  simp only at hc hd hc2 hd2
  subst hc hd hc2 hd2
  exact richCompare_meets_room (op := .Lt) ⟨_, ho, rfl⟩ ⟨_, ho2, rfl⟩ PySem.F.slot_tuple_lt PySem.F.entry_tuple_lt (PySem.F.args_tuple_lt_2 _ _) (tuple_lt_ints l b items items2 n n2 dd dd2 sl sl2 ns ms hi hj)
    ⟨ho, ho2, show Value.bool (lexLt ns ms) ≠ Value.notImplemented ∧ Q (.bool (lexLt ns ms)) s from ⟨(fun x => nomatch x), h⟩⟩ hu

/-- t + u, t not empty -/
theorem cat_tup {t b : Addr} {vs ws : List Value} {Q : Value → Shared → Prop} (ht : IsTup s.heap t vs.toArray) (hb : IsTup s.heap b ws.toArray) (hv : vs ≠ [])
    (h1 : ws = [] → Q (.ref t) s) (h2 : ws ≠ [] → Q (.ref s.heap.objs.size) { s with heap := s.heap.push { cls := .type "tuple", data := .seq (vs ++ ws).toArray } })
    (hsz : vs.length + ws.length ≤ sizeLine) : wpAny (model prog w) A (binaryOp .Add (.ref t) (.ref b)) Q E s := by
  obtain ⟨⟨cls, dd, data, sl⟩, ho, hc, n, hd⟩ := id ht
  obtain ⟨⟨cls2, dd2, data2, sl2⟩, ho2, hc2, n2, hd2⟩ := id hb
  simp only at hc hd hc2 hd2
  subst hc hd hc2 hd2
  have e : vs.toArray ++ ws.toArray = (vs ++ ws).toArray := by simp
  by_cases hw : ws = []
  · exact concat_meets ⟨_, ho, rfl⟩ ⟨_, ho2, rfl⟩ noFill_tuple_add seq_tuple_add PySem.F.slot_tuple_add PySem.F.entry_tuple_add (PySem.F.args_tuple_add_2 _ _)
      (tuple_addW1 t b vs.toArray ws.toArray n n2 dd dd2 sl sl2 (by simpa using hv) (by simp [hw])) ⟨ho, ho2, h1 hw⟩
  · refine concat_meets ⟨_, ho, rfl⟩ ⟨_, ho2, rfl⟩ noFill_tuple_add seq_tuple_add PySem.F.slot_tuple_add PySem.F.entry_tuple_add (PySem.F.args_tuple_add_2 _ _)
      (tuple_addW2 t b vs.toArray ws.toArray n n2 dd dd2 sl sl2 (by simpa using hv) (by simpa using hw) (by rw [List.size_toArray, List.size_toArray]; exact hsz)) ⟨ho, ho2, ?_⟩
    rw [e]
    exact h2 hw

/-! ### t[a:b], not the whole -/
/-- a slice's bound as a place among n (d where it is left out) -/
def sIx (n d : Nat) : Option Int → Nat
  | none => d
  | some v => if v < 0 then (v + (n : Int)).toNat else min v.toNat n
theorem sIx_none (n d : Nat) : sIx n d none = d := rfl
theorem sIx_nat (n d k : Nat) : sIx n d (some (k : Int)) = min k n := by
  show (if (k : Int) < 0 then ((k : Int) + (n : Int)).toNat else min (k : Int).toNat n) = min k n
  rw [if_neg (by omega), Int.toNat_natCast]
theorem sIx_le (n d : Nat) (hd : d ≤ n) (o : Option Int) : sIx n d o ≤ n := by
  cases o with
  | none => exact hd
  | some v =>
    show (if v < 0 then (v + (n : Int)).toNat else min v.toNat n) ≤ n
    by_cases hv : v < 0
    · rw [if_pos hv]; omega
    · rw [if_neg hv]; exact Nat.min_le_right _ _
theorem clip_eq (v : Int) (n d : Nat) : (if v < 0 then max (v + (n : Int)) 0 else min v (n : Int)) = ((sIx n d (some v) : Nat) : Int) := by
  show (if v < 0 then max (v + (n : Int)) 0 else min v (n : Int)) = (((if v < 0 then (v + (n : Int)).toNat else min v.toNat n) : Nat) : Int)
  by_cases hv : v < 0
  · simp only [if_pos hv]; omega
  · simp only [if_neg hv]; omega
theorem adjust_gen (lo hi : Option Int) (n : Nat) : Builtin.Slice.sliceAdjust lo hi 1 (n : Int) = (((sIx n 0 lo : Nat) : Int), ((sIx n n hi : Nat) : Int)) := by
  have h1 : ¬ ((1 : Int) < 0) := by omega
  unfold Builtin.Slice.sliceAdjust
  simp only [h1, if_false]
  refine Prod.ext ?_ ?_
  · cases lo with
    | none => rfl
    | some v => exact clip_eq v n 0
  · cases hi with
    | none => rfl
    | some v => exact clip_eq v n n
theorem places_gen (i j : Nat) : Builtin.Slice.slicePlaces (i : Int) (j : Int) 1 = j - i := by
  unfold Builtin.Slice.slicePlaces
  have h1 : (1 : Int) > 0 := by omega
  simp only [h1, if_true, Int.ediv_one]
  split <;> omega
theorem slicePart_ {v : Value} {o : Option Int} {Q : Option Int → Shared → Prop} (p : IsPart v o) (h : Q o s) : wpAny (model prog w) A (Builtin.Slice.slicePartIndex v) Q E s := by
  cases p with
  | none => exact slicePart_none h
  | int i t => exact slicePart_int h
theorem sliceApplied_gen {sl : Addr} {vl vu : Value} {lo hi : Option Int} {n : Nat} {Q : Int × Int × Nat → Shared → Prop} (hs : s.heap.IsSliceOf sl vl vu .none) (pl : IsPart vl lo) (pu : IsPart vu hi)
    (h : Q (((sIx n 0 lo : Nat) : Int), 1, sIx n n hi - sIx n 0 lo) s) : wpAny (model prog w) A (Builtin.Slice.sliceApplied (.ref sl) (pure (n : Int))) Q E s := by
  obtain ⟨os, hos, hcs, hds⟩ := id hs
  unfold Builtin.Slice.sliceApplied Builtin.Slice.sliceFields
  refine wpAny_bind (wpAny_bind (wpAny_field hos hds (x := vl) rfl (wpAny_bind (wpAny_field hos hds (x := vu) rfl (wpAny_bind (wpAny_field hos hds (x := .none) rfl (wpAny_pure ?_)))))))
  refine wpAny_bind (slicePart_none ?_)
  show wpAny _ _ (if ((1 : Int) == 0) = true then _ else _) _ _ s
  rw [if_neg (by decide)]
  refine wpAny_bind (slicePart_ pl (wpAny_bind (slicePart_ pu (wpAny_bind (wpAny_pure ?_)))))
  show wpAny _ _ (match Builtin.Slice.sliceAdjust lo hi 1 (n : Int) with | (lo, hi) => pure (lo, (1 : Int), Builtin.Slice.slicePlaces lo hi 1)) _ _ s
  rw [adjust_gen lo hi n]
  show wpAny _ _ (pure (((sIx n 0 lo : Nat) : Int), (1 : Int), Builtin.Slice.slicePlaces ((sIx n 0 lo : Nat) : Int) ((sIx n n hi : Nat) : Int) 1)) _ _ s
  rw [places_gen]
  exact wpAny_pure h
theorem pick_gen (xs : Array Value) (i k : Nat) : ((List.range k).filterMap fun (m : Nat) => xs[((i : Int) + (m : Int) * 1).toNat]?).toArray = ((xs.toList.drop i).take k).toArray := by
  have e : (fun (m : Nat) => xs[((i : Int) + (m : Int) * 1).toNat]?) = fun m => xs[i + m]? := by
    funext m
    have : ((i : Int) + (m : Int) * 1).toNat = i + m := by omega
    rw [this]
  rw [e]
  have := pick_run xs i k
  rw [List.filterMap_map] at this
  have e2 : ((fun x => xs[x]?) ∘ fun x => i + x) = fun m => xs[i + m]? := rfl
  rw [e2] at this
  rw [this]

theorem getItem_tuple_cut {t sl : Addr} {items : Array Value} {vl vu : Value} {lo hi : Option Int} {Q : Value → Shared → Prop} (ht : IsTup s.heap t items) (hs : s.heap.IsSliceOf sl vl vu .none) (pl : IsPart vl lo) (pu : IsPart vu hi)
    (hw : ¬ (sIx items.size 0 lo = 0 ∧ sIx items.size items.size hi = items.size))
    (h : Q (.ref s.heap.objs.size) { s with heap := s.heap.push { cls := .type "tuple", data := .seq ((items.toList.drop (sIx items.size 0 lo)).take (sIx items.size items.size hi - sIx items.size 0 lo)).toArray } })
    (hsz : items.size ≤ sizeLine) : wpAny (model prog w) A (getItem (.ref t) (.ref sl)) Q E s := by
  have htake : sizeOk (.seq ((items.toList.drop (sIx items.size 0 lo)).take (sIx items.size items.size hi - sIx items.size 0 lo)).toArray) := by
    show ((items.toList.drop (sIx items.size 0 lo)).take (sIx items.size items.size hi - sIx items.size 0 lo)).toArray.size ≤ sizeLine
    rw [List.size_toArray, List.length_take, List.length_drop, Array.length_toList]
    omega
  have hj : sIx items.size items.size hi ≤ items.size := sIx_le _ _ (Nat.le_refl _) hi
  obtain ⟨os, hos, hcs, hds⟩ := id hs
  have hTs : s.TypeIs (.ref sl) "slice" := ⟨os, hos, hcs⟩
  unfold getItem
  try with_reducible refine wpAny_holding ?_
  first | refine wpAny_bind (wpAny_pure ?_) | skip
  refine wpAny_bind (wpAny_sequenceKey ht.typeIs (by decide) ?_)
  refine wpAny_bind (wpAny_callSpecial?_slot (name := Str.ofString "__getitem__") ht.typeIs PyProof.Rows.slot_tuple_getitem
    (wpAny_call_entry PyProof.Rows.slot_tuple_getitem ht.typeIs entry_tuple_getitem ?_ (args_tuple_getitem _ _)))
  show wpAny _ _ (Builtin.Tuple.tupleItemsOf (.ref t) >>= _) _ _ s
  refine wpAny_bind (tupleItemsOf_ ht ?_)
  refine wpAny_bind (wpAny_typeOf hTs ?_)
  rw [if_pos (by decide)]
  refine wpAny_bind (sliceApplied_gen hs pl pu ?_)
  have hno : ¬ ((((sIx items.size 0 lo : Nat) : Int) == 0 && (1 : Int) == 1 && (sIx items.size items.size hi - sIx items.size 0 lo) == items.size) = true) := by
    intro q
    rw [Bool.and_eq_true, Bool.and_eq_true] at q
    have q1 : ((sIx items.size 0 lo : Nat) : Int) = 0 := eq_of_beq q.1.1
    have q2 : sIx items.size items.size hi - sIx items.size 0 lo = items.size := eq_of_beq q.2
    exact hw ⟨by omega, by omega⟩
  show wpAny _ _ (if (((sIx items.size 0 lo : Nat) : Int) == 0 && (1 : Int) == 1 && (sIx items.size items.size hi - sIx items.size 0 lo) == items.size) = true then _ else _) _ _ s
  rw [if_neg hno, pick_gen]
  first
    | exact wpAny_bind (m := Builtin.Tuple.tupleExact _) (wpAny_newObj_type (wpAny_pure ⟨_, rfl, wpAny_pure h⟩) htake)
    | exact wpAny_bind (m := Builtin.Tuple.tupleExact _) (wpAny_newObj_type (wpAny_bind (wpAny_pure (wpAny_pure ⟨_, rfl, wpAny_pure h⟩))) htake)
    | exact wpAny_bind (wpAny_bind (m := Builtin.Tuple.tupleExact _) (wpAny_newObj_type (wpAny_pure (wpAny_pure ⟨_, rfl, wpAny_pure h⟩)) htake))
    | exact wpAny_bind (wpAny_bind (m := Builtin.Tuple.tupleExact _) (wpAny_newObj_type (wpAny_pure ⟨_, rfl, wpAny_pure h⟩) htake))
end
end HT

namespace L2
open PySem PySem.Spec PyProof.Rows

/-! ### the parts of a slice -/
abbrev TO := St → Hp → (Option Int → Hp → Prop) → Prop
/-- a slice's part (left out, or an int) -/
def PO (X : Cx) (e : Option Expr) (t : TO) : Prop :=
  ∀ (pins : List (Addr × Obj)) (s : Shared) (σ : St) (H : Hp) (Q : Option Int → Hp → Prop), Inv X pins σ H s → t σ H Q →
    wpAny (model X.prog X.w) X.A (evalPart e X.env) (fun u s' => ∃ o H', Inv X pins σ H' s' ∧ IsPart u o ∧ Q o H') X.xe s
def tNoPart : TO := fun _ H Q => Q none H
def tPart (t : TE) : TO := fun σ H Q => t σ H fun x H1 => ∃ i, x = .int i ∧ Q (some i) H1

theorem intsAre_of {ns : List Int} : ∀ {us : List Value}, Vals (ns.map V.int) us → IntsAre us ns := by
  induction ns with
  | nil => intro us r; rw [List.map_nil] at r; cases r; exact .nil
  | cons n ns ih =>
    intro us r
    rw [List.map_cons] at r
    cases r with
    | cons r1 r2 =>
      obtain ⟨t, e⟩ := r1
      subst e
      exact .cons n t (ih r2)

section
variable {X : Cx} {e : Expr} {te : TE} {lo hi : Option Expr} {tl th : TO} {pos p2 : Pos}

theorem po_none : PO X none tNoPart := by
  intro pins s σ H Q I h
  rw [evalPart_none]
  exact wpAny_pure ⟨none, H, I, .none, h⟩
theorem po_some (h : PE X e te) : PO X (some e) (tPart te) := by
  intro pins s σ H Q I hw
  rw [evalPart_some]
  refine thn (h pins s σ H _ I hw) fun u s1 ⟨x, H1, I1, r1, q1⟩ => ?_
  obtain ⟨i, rfl, q⟩ := q1
  obtain ⟨t, rfl⟩ := r1
  exact ⟨some i, H1, I1, .int i t, q⟩

/-- what a slice of a value is, by values: the slice object stands at sl -/
def SlR (X : Cx) (r : V → Option Int → Option Int → Hp → VK → Prop) : Prop :=
  ∀ (pins : List (Addr × Obj)) (s : Shared) (σ : St) (H : Hp) (x : V) (v vl vu : Value) (lo hi : Option Int) (sl : Addr) (Q : VK), Inv X pins σ H s → RelV x v → s.heap.IsSliceOf sl vl vu .none → IsPart vl lo → IsPart vu hi → r x lo hi H Q →
    ∃ T id, typeLookup (.type T) "__getitem__" = pure (some (.builtin id)) ∧ s.TypeIs v T ∧ wpAny (model X.prog X.w) X.A (getItem v (.ref sl)) (EP X pins σ Q) X.xe s
theorem SlR.or {r r' : V → Option Int → Option Int → Hp → VK → Prop} (h : SlR X r) (h' : SlR X r') : SlR X (fun x lo hi H Q => r x lo hi H Q ∨ r' x lo hi H Q) := by
  intro pins s σ H x v vl vu lo hi sl Q I rx hs pl pu q
  rcases q with q | q
  · exact h pins s σ H x v vl vu lo hi sl Q I rx hs pl pu q
  · exact h' pins s σ H x v vl vu lo hi sl Q I rx hs pl pu q
def tSl (r : V → Option Int → Option Int → Hp → VK → Prop) (te : TE) (tl th : TO) : TE := fun σ H Q => te σ H fun x H1 => tl σ H1 fun l H2 => th σ H2 fun u H3 => r x l u H3 Q
/-- a[lo:hi], any a -/
theorem pe_slice {r : V → Option Int → Option Int → Hp → VK → Prop} (hr : SlR X r) (he : PE X e te) (hl : PO X lo tl) (hu : PO X hi th) : PE X (.Subscript e (.Slice lo hi none p2) pos) (tSl r te tl th) := by
  intro pins s σ H Q I h
  refine Subscript_ (thn (he pins s σ H _ I h) fun v s1 ⟨x, H1, I1, r1, q1⟩ => ?_)
  refine wpAny_Slice (thn (hl pins s1 σ H1 _ I1 q1) fun vl s2 ⟨l, H2, I2, pl, q2⟩ => thn (hu pins s2 σ H2 _ I2 q2) fun vu s3 ⟨u, H3, I3, pu, q3⟩ => ?_)
  rw [evalPart_none]
  refine wpAny_pure ?_
  have I4 : Inv X pins σ H3 { s3 with heap := s3.heap.push { cls := .type "slice", data := .fields #[vl, vu, .none] } } := I3.kept (t' := s3.toks) fun b ob q => Heap.get?_push_of_some _ q
  obtain ⟨T, id, hT, ht, hg⟩ := hr pins { s3 with heap := s3.heap.push { cls := .type "slice", data := .fields #[vl, vu, .none] } } σ H3 x v vl vu l u s3.heap.objs.size Q I4 r1 (Heap.IsSliceOf.new ..) pl pu q3
  show wpAny (model X.prog X.w) X.A (subscriptTail e (.Slice lo hi none p2) v (.ref s3.heap.objs.size)) (EP X pins σ Q) X.xe { s3 with heap := s3.heap.push { cls := .type "slice", data := .fields #[vl, vu, .none] } }
  exact tail_any (ops := [.ref s3.heap.objs.size, v]) ht hT hg (by with_unfolding_all rfl)

/-- the items of xs[lo:hi] -/
def cutV (xs : List V) (lo hi : Option Int) : List V := (xs.drop (HT.sIx xs.length 0 lo)).take (HT.sIx xs.length xs.length hi - HT.sIx xs.length 0 lo)
theorem cutV_length (xs : List V) (lo hi : Option Int) : (cutV xs lo hi).length ≤ xs.length := by
  unfold cutV
  rw [List.length_take, List.length_drop]
  omega
/-- t[lo:hi], not the whole of it (the whole would be t itself) -/
def rSlT (K : PySem.W.Frag) : V → Option Int → Option Int → Hp → VK → Prop := fun x lo hi H Q => ∃ a xs, x = .ref a ∧ SqT K H a xs ∧
  ¬ (HT.sIx xs.length 0 lo = 0 ∧ HT.sIx xs.length xs.length hi = xs.length) ∧ ∀ p, H p = none → Q (.ref p) (upd H p (.tup (cutV xs lo hi)))
theorem sl_tup : SlR X (rSlT X.K) := by
  intro pins s σ H x v vl vu lo hi sl Q I rx hs pl pu h
  obtain ⟨a, xs, rfl, hx, hw, q⟩ := h
  cases rx
  obtain ⟨its, r, ht, hz⟩ := I.tuple hx
  have hlen : its.toArray.size = xs.length := by rw [List.size_toArray]; exact r.length.symm
  refine ⟨"tuple", _, PyProof.Rows.slot_tuple_getitem.lookup, ht.typeIs, ?_⟩
  refine HT.getItem_tuple_cut ht hs pl pu (by rw [hlen]; exact hw) ?_ (by rw [hlen]; exact hz)
  rw [hlen]
  refine ⟨.ref s.heap.objs.size, _, I.laid (t' := s.toks) (o := .tup (cutV xs lo hi)) (fun b ob q => Heap.get?_push_of_some _ q) (Nat.le_refl _) ?_, rfl, q _ (I.hok.fresh (Nat.le_refl _))⟩
  exact ⟨Nat.le_trans (cutV_length xs lo hi) hz, _, (r.drop (HT.sIx xs.length 0 lo)).take (HT.sIx xs.length xs.length hi - HT.sIx xs.length 0 lo), IsTup.new _ _⟩

/-! ### t < u, t + u -/
def rLtT (K : PySem.W.Frag) : R2 := fun x y H Q => ∃ a b ns ms, x = .ref a ∧ y = .ref b ∧ SqT K H a (ns.map V.int) ∧ SqT K H b (ms.map V.int) ∧ Q (.bl (HT.lexLt ns ms)) H
theorem op_ltT (hu : X.A.units < cLine) : OpR X (compareOp .Lt) (rLtT X.K) := by
  intro pins s σ H x y v u Q I rx ry h
  obtain ⟨a, b, ns, ms, rfl, rfl, ha, hb, q⟩ := h
  cases rx
  cases ry
  obtain ⟨its, r1, p1, _⟩ := I.tuple ha
  obtain ⟨its2, r2, p2, _⟩ := I.tuple hb
  have i1 : IntsAre its.toArray.toList ns := intsAre_of r1
  have i2 : IntsAre its2.toArray.toList ms := intsAre_of r2
  exact HT.lt_tupInts p1 p2 i1 i2 hu ⟨.bl (HT.lexLt ns ms), H, I, rfl, q⟩
/-- t + u, t not empty: u empty gives t itself -/
def rCatT (K : PySem.W.Frag) : R2 := fun x y H Q => ∃ a b xs ys, x = .ref a ∧ y = .ref b ∧ SqT K H a xs ∧ SqT K H b ys ∧ xs ≠ [] ∧ xs.length + ys.length ≤ sizeLine ∧
  (ys = [] → Q (.ref a) H) ∧ (ys ≠ [] → ∀ p, H p = none → Q (.ref p) (upd H p (.tup (xs ++ ys))))
theorem Vals.nil_iff {xs : List V} {us : List Value} (r : Vals xs us) : us = [] ↔ xs = [] := by
  cases r with
  | nil => simp
  | cons _ _ => simp
theorem op_catT : OpR X (binaryOp .Add) (rCatT X.K) := by
  intro pins s σ H x y v u Q I rx ry h
  obtain ⟨a, b, xs, ys, rfl, rfl, ha, hb, hx, hz, q1, q2⟩ := h
  cases rx
  cases ry
  obtain ⟨its, r1, p1, _⟩ := I.tuple ha
  obtain ⟨its2, r2, p2, _⟩ := I.tuple hb
  refine HT.cat_tup p1 p2 (fun z => hx (r1.nil_iff.mp z)) (fun z => ⟨.ref a, H, I, rfl, q1 (r2.nil_iff.mp z)⟩) (fun z => ?_) (by rw [← r1.length, ← r2.length]; exact hz)
  refine ⟨.ref s.heap.objs.size, _, I.laid (t' := s.toks) (o := .tup (xs ++ ys)) (fun b ob q => Heap.get?_push_of_some _ q) (Nat.le_refl _) ?_, rfl, q2 (fun w => z (r2.nil_iff.mpr w)) _ (I.hok.fresh (Nat.le_refl _))⟩
  exact ⟨by rw [List.length_append]; exact hz, _, r1.append r2, IsTup.new _ _⟩
/-- tuple(t) -/
theorem call_tupleT : CallR X (.type "tuple") (fun xs H Q => ∃ a ys, xs = [.ref a] ∧ SqT X.K H a ys ∧ Q (.ref a) H) := by
  intro pins s σ H xs us Q I r h
  obtain ⟨a, ys, rfl, ha, q⟩ := h
  obtain ⟨u, rfl, ru⟩ := vals1 r
  cases ru
  obtain ⟨its, _, p1, _⟩ := I.tuple ha
  exact call_tuple_same (items := its.toArray) p1 ⟨.ref a, H, I, rfl, q⟩
end
end L2

namespace L2
open PySem PySem.Spec PyProof.Rows

/-! ### places -/
/-- the place that an index of any sign means -/
def ixN (n : Nat) (i : Int) : Option Nat := if 0 ≤ i then (if i < n then some i.toNat else none) else if -(n : Int) ≤ i then some (i + n).toNat else none
def atI {α : Type} (xs : List α) (i : Int) : Option α := (ixN xs.length i).bind fun j => xs[j]?
theorem ixN_seq {n : Nat} {i : Int} {j : Nat} (h : ixN n i = some j) : seqIndex? i n = some j ∧ j < n ∧ -(n : Int) ≤ i ∧ i < n := by
  unfold ixN at h
  by_cases h0 : 0 ≤ i
  · rw [if_pos h0] at h
    by_cases h1 : i < n
    · rw [if_pos h1] at h
      have e : i.toNat = j := Option.some.inj h
      exact ⟨by rw [seqIndex_of h0 h1, e], by omega, by omega, h1⟩
    · rw [if_neg h1] at h; cases h
  · rw [if_neg h0] at h
    by_cases h1 : -(n : Int) ≤ i
    · rw [if_pos h1] at h
      have e : (i + n).toNat = j := Option.some.inj h
      exact ⟨by rw [seqIndex_neg (by omega) h1, e], by omega, h1, by omega⟩
    · rw [if_neg h1] at h; cases h
theorem atI_get {α : Type} {xs : List α} {i : Int} {v : α} (h : atI xs i = some v) : ∃ j, seqIndex? i xs.length = some j ∧ xs[j]? = some v ∧ j < xs.length ∧ -(xs.length : Int) ≤ i ∧ i < xs.length := by
  unfold atI at h
  cases e : ixN xs.length i with
  | none => rw [e] at h; cases h
  | some j =>
    rw [e] at h
    obtain ⟨h1, h2, h3, h4⟩ := ixN_seq e
    exact ⟨j, h1, h, h2, h3, h4⟩
theorem atI_nat {α : Type} {xs : List α} {j : Nat} {v : α} (h : xs[j]? = some v) : atI xs (j : Int) = some v := by
  have hj : j < xs.length := (List.getElem?_eq_some_iff.mp h).1
  have e : ixN xs.length (j : Int) = some j := by
    unfold ixN
    rw [if_pos (by omega), if_pos (by omega)]; simp
  unfold atI; rw [e]; exact h
theorem atI_last {α : Type} (xs : List α) (v : α) : atI (xs ++ [v]) (-1) = some v := by
  have hl : (xs ++ [v]).length = xs.length + 1 := by simp
  have e : ixN (xs ++ [v]).length (-1) = some xs.length := by
    unfold ixN
    rw [hl, if_neg (by decide), if_pos (by omega)]
    congr 1
    omega
  unfold atI
  rw [e]
  show (xs ++ [v])[xs.length]? = some v
  simp

/-! ### what may be subscripted -/
/-- what stands as an index of a plain subscript -/
def PlainIx (b : Expr) : Prop := ∀ o i, subscripted b false o i = operate [o, i] (getItem o i)
/-- a subscript by values -/
def IxR (X : Cx) (r : R2) : Prop :=
  ∀ (value slice : Expr) (pins : List (Addr × Obj)) (s : Shared) (σ : St) (H : Hp) (x y : V) (v u : Value) (Q : VK), Inv X pins σ H s → RelV x v → RelV y u → r x y H Q →
    subscripted slice false v u = operate [v, u] (getItem v u) → wpAny (model X.prog X.w) X.A (subscriptTail value slice v u) (EP X pins σ Q) X.xe s
/-- a call of a builtin's method by values: the receiver, the arguments -/
def MtR (X : Cx) (id : String) (r : V → List V → Hp → VK → Prop) : Prop :=
  ∀ (pins : List (Addr × Obj)) (s : Shared) (σ : St) (H : Hp) (x : V) (xs : List V) (v : Value) (us : List Value) (Q : VK), Inv X pins σ H s → RelV x v → Vals xs us → r x xs H Q →
    wpAny (model X.prog X.w) X.A (call (.builtin id) (v :: us)) (EP X pins σ Q) X.xe s
section
variable {X : Cx} {a b : Expr} {ta tb : TE} {pos : Pos}
theorem IxR.or {r r' : R2} (h : IxR X r) (h' : IxR X r') : IxR X (fun x y H Q => r x y H Q ∨ r' x y H Q) := by
  intro value slice pins s σ H x y v u Q I rx ry q hs
  rcases q with q | q
  · exact h value slice pins s σ H x y v u Q I rx ry q hs
  · exact h' value slice pins s σ H x y v u Q I rx ry q hs
theorem MtR.or {id : String} {r r' : V → List V → Hp → VK → Prop} (h : MtR X id r) (h' : MtR X id r') : MtR X id (fun x xs H Q => r x xs H Q ∨ r' x xs H Q) := by
  intro pins s σ H x xs v us Q I rx rs q
  rcases q with q | q
  · exact h pins s σ H x xs v us Q I rx rs q
  · exact h' pins s σ H x xs v us Q I rx rs q
/-- a[b] -/
theorem pe_ix {r : R2} (hr : IxR X r) (ha : PE X a ta) (hb : PE X b tb) (hs : PlainIx b) : PE X (.Subscript a b pos) (tOp r ta tb) := by
  intro pins s σ H Q I h
  exact Subscript_ (binT ha hb I h fun v u s2 x y H2 I2 rx ry q => hr a b pins s2 σ H2 x y v u Q I2 rx ry q (hs _ _))

def rIxL (K : PySem.W.Frag) : R2 := fun x y H Q => ∃ p xs i v, x = .ref p ∧ y = .int i ∧ SqL K H p xs ∧ atI xs i = some v ∧ Q v H
def rIxT (K : PySem.W.Frag) : R2 := fun x y H Q => ∃ p xs i v, x = .ref p ∧ y = .int i ∧ SqT K H p xs ∧ atI xs i = some v ∧ Q v H
def rIxS : R2 := fun x y H Q => ∃ z i c, x = .str z ∧ y = .int i ∧ z.length ≤ sizeLine ∧ atI z.cps.toList i = some c ∧ Q (.str ⟨#[c]⟩) H
theorem ix_list : IxR X (rIxL X.K) := by
  intro value slice pins s σ H x y v u Q I rx ry h hs
  obtain ⟨p, xs, i, z, rfl, rfl, hq, he, q⟩ := h
  cases rx
  obtain ⟨t, rfl⟩ := ry
  obtain ⟨its, r, pl, hz⟩ := I.list hq
  obtain ⟨j, h1, h2, h3, h4, h5⟩ := atI_get he
  obtain ⟨w, ew, rw'⟩ := r.get h2
  have hl := r.length
  have hn := line63
  have fin : EP X pins σ Q w s := ⟨z, H, I, rw', q⟩
  by_cases h0 : 0 ≤ i
  · have hj : i.toNat = j := by
      rw [seqIndex_of h0 h5] at h1
      exact Option.some.inj h1
    exact item_listR pl.isList h0 (by omega) (by rw [hj]; simpa using ew) fin hs
  · have hj : (i + (its.toArray.size : Int)).toNat = j := by
      rw [seqIndex_neg (by omega) h4] at h1
      rw [List.size_toArray, ← hl]
      exact Option.some.inj h1
    exact subscriptTail_builtinR (x := w) pl.isList.typeIs slot_list_getitem.lookup
      (wpAny_getItem_list_neg (Q := fun r s' => r = w ∧ EP X pins σ Q r s') pl.isList (by omega) (by rw [List.size_toArray] <;> omega) (by omega) (by rw [hj]; simpa using ew) ⟨rfl, fin⟩) hs
theorem ix_tup : IxR X (rIxT X.K) := by
  intro value slice pins s σ H x y v u Q I rx ry h hs
  obtain ⟨p, xs, i, z, rfl, rfl, hq, he, q⟩ := h
  cases rx
  obtain ⟨t, rfl⟩ := ry
  obtain ⟨its, r, pl, hz⟩ := I.tuple hq
  obtain ⟨j, h1, h2, h3, h4, h5⟩ := atI_get he
  obtain ⟨w, ew, rw'⟩ := r.get h2
  have hl := r.length
  have hn := line63
  have fin : EP X pins σ Q w s := ⟨z, H, I, rw', q⟩
  exact subscriptTail_builtinR (x := w) pl.typeIs slot_tuple_getitem.lookup
    (getItem_tuple (j := j) (Q := fun r s' => r = w ∧ EP X pins σ Q r s') pl (by omega) (by omega) (by rw [List.size_toArray, ← hl]; exact h1) (by simpa using ew) ⟨rfl, fin⟩) hs
theorem ix_str : IxR X rIxS := by
  intro value slice pins s σ H x y v u Q I rx ry h hs
  obtain ⟨z, i, c, rfl, rfl, hz, he, q⟩ := h
  obtain ⟨t, rfl⟩ := rx
  obtain ⟨t', rfl⟩ := ry
  obtain ⟨j, h1, h2, h3, h4, h5⟩ := atI_get he
  have hl : z.cps.toList.length = z.length := by simp [Str.length]
  rw [hl] at h1 h4 h5
  have hn := line63
  exact tail_any (typeIs_str s z t) slot_str_getitem.lookup (getItem_str (c := c) (by
    have e1 : decide (i < -(2 ^ 63 : Int)) = false := decide_eq_false (by omega)
    have e2 : decide (i ≥ 2 ^ 63) = false := decide_eq_false (by omega)
    rw [e1, e2, Bool.or_false]) (by rw [h1]; simpa using h2) ⟨.str ⟨#[c]⟩, H, I.tok _, ⟨_, rfl⟩, q⟩) hs
/-- list, tuple or str -/
def rIx (K : PySem.W.Frag) : R2 := fun x y H Q => rIxL K x y H Q ∨ rIxT K x y H Q ∨ rIxS x y H Q
theorem ix_seq : IxR X (rIx X.K) := ix_list.or (ix_tup.or ix_str)

/-! ### xs[i] = v, any sign -/
/-- the list's object behind a store -/
theorem mapSeq_set (its : List Value) (n j : Nat) (u : Value) : Obj.mapSeq (·.setIfInBounds j u) { cls := .type "list", data := .seq its.toArray n } = { cls := .type "list", data := .seq (its.set j u).toArray n } := by
  simp [Obj.mapSeq]
theorem Inv.lst {pins : List (Addr × Obj)} {σ : St} {H : Hp} {s : Shared} {p : Addr} {xs : List V} (I : Inv X pins σ H s) (h : H p = some (.lst xs)) :
    ∃ (its : List Value) (n : Nat), Vals xs its ∧ s.heap.get? p = some { cls := .type "list", data := .seq its.toArray n } ∧ xs.length ≤ sizeLine := by
  obtain ⟨z, its, n, r, e⟩ := I.hok p _ h
  exact ⟨its, n, r, e, z⟩
/-- the list at p is written by an update of its object -/
theorem Inv.lstUpd {pins : List (Addr × Obj)} {σ : St} {H : Hp} {s : Shared} {p : Addr} {xs ys : List V} {its its' : List Value} {n n' : Nat} {f : Obj → Obj} (I : Inv X pins σ H s) (h : H p = some (.lst xs))
    (ho : s.heap.get? p = some { cls := .type "list", data := .seq its.toArray n }) (hf : f { cls := .type "list", data := .seq its.toArray n } = { cls := .type "list", data := .seq its'.toArray n' }) (r : Vals ys its') (hz : ys.length ≤ sizeLine) (t : Nat) :
    Inv X pins σ (upd H p (.lst ys)) { s with heap := s.heap.update p f, toks := t } := by
  have e : (s.heap.update p f).get? p = some { cls := .type "list", data := .seq its'.toArray n' } := by
    rw [Heap.get?_update_self f ho (by rw [hf] <;> rfl), hf]
  refine I.write (x := p) (e := p) (by rw [h]; trivial) (.inl rfl) (fun b u hb q => (Heap.get?_update_other _ _ (Ne.symm hb)).trans q) ⟨_, e⟩ ?_
  exact ⟨hz, its', n', r, e⟩
def rSetL : V → V → V → Hp → (Hp → Prop) → Prop := fun o i v H Q => ∃ p xs k j, o = .ref p ∧ i = .int k ∧ H p = some (.lst xs) ∧ ixN xs.length k = some j ∧ Q (upd H p (.lst (xs.set j v)))
theorem set_list : PSet X rSetL := by
  intro pins s σ H o i v ov iv u Q I ro ri rv h
  obtain ⟨p, xs, k, j, rfl, rfl, hp, hj, q⟩ := h
  cases ro
  obtain ⟨t, rfl⟩ := ri
  obtain ⟨its, n, r, ho, hz⟩ := I.lst hp
  obtain ⟨h1, h2, h3, h4⟩ := ixN_seq hj
  have hl := r.length
  have hn := line63
  have I' : Inv X pins σ (upd H p (.lst (xs.set j v))) { s with heap := s.heap.update p (Obj.mapSeq (·.setIfInBounds j u)) } :=
    I.lstUpd hp ho (mapSeq_set its n j u) (r.set rv j) (by rw [List.length_set]; exact hz) s.toks
  by_cases h0 : 0 ≤ k
  · have hk : k.toNat = j := by
      rw [seqIndex_of h0 h4] at h1
      exact Option.some.inj h1
    exact PySem.W.ki_setAt ho h0 (by omega) (by rw [List.size_toArray, ← hl]; exact h4) (by rw [hk]; exact ⟨_, I', q⟩)
  · have hk : (k + (its.toArray.size : Int)).toNat = j := by
      rw [seqIndex_neg (by omega) h3] at h1
      rw [List.size_toArray, ← hl]
      exact Option.some.inj h1
    exact PySem.W.ki_setBack ho (by omega) (by rw [List.size_toArray, ← hl]; exact h3) (by omega) (by rw [hk]; exact ⟨_, I', q⟩)

/-! ### slices -/
theorem slice_bounds (lo hi : Option Int) (n : Nat) : (sliceBounds lo hi none n).1 = ((HT.sIx n 0 lo : Nat) : Int) ∧ (sliceBounds lo hi none n).2.1 = ((HT.sIx n n hi : Nat) : Int) ∧ (sliceBounds lo hi none n).2.2 = 1 := by
  refine ⟨?_, ?_, rfl⟩
  · cases lo with
    | none => simp [sliceBounds, HT.sIx]
    | some i =>
      simp only [sliceBounds, HT.sIx, Option.getD_none, show (1 : Int) > 0 by decide, if_true]
      by_cases h : i < 0
      · simp only [h, if_true] <;> omega
      · simp only [h, if_false] <;> omega
  · cases hi with
    | none => simp [sliceBounds, HT.sIx]
    | some i =>
      simp only [sliceBounds, HT.sIx, Option.getD_none, show (1 : Int) > 0 by decide, if_true]
      by_cases h : i < 0
      · simp only [h, if_true] <;> omega
      · simp only [h, if_false] <;> omega
theorem slicePick_cut (its : List Value) (lo hi : Option Int) : slicePick its.toArray lo hi none = ((its.drop (HT.sIx its.length 0 lo)).take (HT.sIx its.length its.length hi - HT.sIx its.length 0 lo)).toArray := by
  obtain ⟨h1, h2, h3⟩ := slice_bounds lo hi its.toArray.size
  unfold slicePick
  rw [h1, h2, h3]
  simp only [sliceRange_one, pick_run, List.size_toArray] <;> rfl
/-- xs[lo:hi] of a list: a new list -/
def rSlL (K : PySem.W.Frag) : V → Option Int → Option Int → Hp → VK → Prop := fun x lo hi H Q => ∃ a xs, x = .ref a ∧ SqL K H a xs ∧ ∀ p, H p = none → Q (.ref p) (upd H p (.lst (cutV xs lo hi)))
theorem sl_list : SlR X (rSlL X.K) := by
  intro pins s σ H x v vl vu lo hi sl Q I rx hs pl pu h
  obtain ⟨a, xs, rfl, hx, q⟩ := h
  cases rx
  obtain ⟨its, r, ht, hz⟩ := I.list hx
  have hlen := r.length
  refine ⟨"list", _, slot_list_getitem.lookup, ht.isList.typeIs, ?_⟩
  refine wpAny_getItem_list_slice ht.isList hs pl pu .none (by simp) ?_ (by rw [List.size_toArray] <;> omega)
  rw [slicePick_cut, ← hlen]
  refine ⟨.ref s.heap.objs.size, _, I.laid (t' := s.toks) (o := .lst (cutV xs lo hi)) (fun b ob q => Heap.get?_push_of_some _ q) (Nat.le_refl _) ?_, rfl, q _ (I.hok.fresh (Nat.le_refl _))⟩
  exact ⟨Nat.le_trans (cutV_length xs lo hi) hz, _, 0, (r.drop (HT.sIx xs.length 0 lo)).take (HT.sIx xs.length xs.length hi - HT.sIx xs.length 0 lo), Heap.get?_push_size _ rfl⟩

/-! ### in, not in: flat items -/
def flatV : V → Bool
  | .non => true
  | .bl _ => true
  | .int _ => true
  | .str _ => true
  | _ => false
/-- == of flat values -/
def eqV : V → V → Bool
  | .non, .non => true
  | .bl a, .bl b => a == b
  | .bl a, .int b => (if a then 1 else 0) == b
  | .int a, .bl b => a == (if b then 1 else 0)
  | .int a, .int b => a == b
  | .str a, .str b => a == b
  | _, _ => false
theorem eqAt_V {A : Around} {s : Shared} {y x : V} {u v : Value} (ry : RelV y u) (rx : RelV x v) (fy : flatV y = true) (fx : flatV x = true) : SeqAt.EqAt A s u v (eqV y x) := by
  cases y with
  | non =>
    cases ry
    cases x with
    | non => cases rx; exact SeqAt.EqAt.same _
    | bl b => cases rx; exact SeqAt.EqAt.none_bool b
    | int b => obtain ⟨t, rfl⟩ := rx; exact SeqAt.EqAt.none_int b t
    | str b => obtain ⟨t, rfl⟩ := rx; exact SeqAt.EqAt.none_str b t
    | _ => exact absurd (show false = true from fx) Bool.false_ne_true
  | bl a =>
    cases ry
    cases x with
    | non => cases rx; exact SeqAt.EqAt.bool_none a
    | bl b => cases rx; exact SeqAt.EqAt.bool_bool a b
    | int b => obtain ⟨t, rfl⟩ := rx; exact SeqAt.EqAt.bool_int a b t
    | str b => obtain ⟨t, rfl⟩ := rx; exact SeqAt.EqAt.bool_str a b t
    | _ => exact absurd (show false = true from fx) Bool.false_ne_true
  | int a =>
    obtain ⟨t', rfl⟩ := ry
    cases x with
    | non => cases rx; exact SeqAt.EqAt.int_none a t'
    | bl b => cases rx; exact SeqAt.EqAt.int_bool a t' b
    | int b => obtain ⟨t, rfl⟩ := rx; exact SeqAt.EqAt.int_int a t' b t
    | str b => obtain ⟨t, rfl⟩ := rx; exact SeqAt.EqAt.int_str a t' b t
    | _ => exact absurd (show false = true from fx) Bool.false_ne_true
  | str a =>
    obtain ⟨t', rfl⟩ := ry
    cases x with
    | non => cases rx; exact SeqAt.EqAt.str_none a t'
    | bl b => cases rx; exact SeqAt.EqAt.str_bool a t' b
    | int b => obtain ⟨t, rfl⟩ := rx; exact SeqAt.EqAt.str_int a t' b t
    | str b => obtain ⟨t, rfl⟩ := rx; exact SeqAt.EqAt.str_str a t' b t
    | _ => exact absurd (show false = true from fx) Bool.false_ne_true
  | _ => exact absurd (show false = true from fy) Bool.false_ne_true
/-- the items' answers, read off the values (a value's own answer does not lean on its token) -/
def eqU (x : V) (u : Value) : Bool := match u with
  | .none => eqV .non x
  | .bool b => eqV (.bl b) x
  | .int i _ => eqV (.int i) x
  | .str z _ => eqV (.str z) x
  | _ => false
theorem eqU_of {x y : V} {u : Value} (r : RelV y u) (f : flatV y = true) : eqU x u = eqV y x := by
  cases y with
  | non => cases r; rfl
  | bl b => cases r; rfl
  | int i => obtain ⟨t, rfl⟩ := r; rfl
  | str z => obtain ⟨t, rfl⟩ := r; rfl
  | _ => exact absurd (show false = true from f) Bool.false_ne_true
theorem any_eqU {x : V} : ∀ {xs : List V} {us : List Value}, Vals xs us → xs.all flatV = true → us.any (eqU x) = xs.any fun y => eqV y x
  | _, _, .nil, _ => rfl
  | y :: xs, u :: us, .cons r t, f => by
    rw [List.all_cons, Bool.and_eq_true] at f
    rw [List.any_cons, List.any_cons, eqU_of r f.1, any_eqU t f.2]
theorem mem_eqAt {A : Around} {s : Shared} {x : V} {v : Value} (rx : RelV x v) (fx : flatV x = true) : ∀ {xs : List V} {us : List Value}, Vals xs us → xs.all flatV = true → ∀ u ∈ us, SeqAt.EqAt A s u v (eqU x u)
  | _, _, .nil, _ => fun u hu => by cases hu
  | y :: xs, u :: us, .cons r t, f => fun u' hu => by
    rw [List.all_cons, Bool.and_eq_true] at f
    rcases List.mem_cons.mp hu with rfl | hu
    · rw [eqU_of r f.1]; exact eqAt_V r rx f.1 fx
    · exact mem_eqAt rx fx t f.2 u' hu
def inV (x : V) (xs : List V) : Bool := xs.any fun y => eqV y x
/-- x in a list or tuple of flat items -/
def rIn (K : PySem.W.Frag) (neg : Bool) : R2 := fun x y H Q => ∃ p xs, y = .ref p ∧ (SqL K H p xs ∨ SqT K H p xs) ∧ flatV x = true ∧ xs.all flatV = true ∧ Q (.bl (if neg then !inV x xs else inV x xs)) H
theorem op_in_seq : OpR X (compareOp .In) (rIn X.K false) := by
  intro pins s σ H x y v u Q I rx ry h
  obtain ⟨p, xs, rfl, hq, fx, fs, q⟩ := h
  cases ry
  rcases hq with hq | hq
  · obtain ⟨its, r, pl, hz⟩ := I.list hq
    refine SeqAt.in_listAt (eqU x) pl.isList (fun w hw => mem_eqAt rx fx r fs w (by simpa using hw)) ⟨.bl _, H, I, rfl, ?_⟩
    rw [show its.toArray.any (eqU x) = its.any (eqU x) by simp, any_eqU r fs]
    exact q
  · obtain ⟨its, r, pl, hz⟩ := I.tuple hq
    refine SeqAt.in_tupleAt (eqU x) pl (fun w hw => mem_eqAt rx fx r fs w (by simpa using hw)) ⟨.bl _, H, I, rfl, ?_⟩
    rw [show its.toArray.any (eqU x) = its.any (eqU x) by simp, any_eqU r fs]
    exact q
theorem op_notIn_seq : OpR X (compareOp .NotIn) (rIn X.K true) := by
  intro pins s σ H x y v u Q I rx ry h
  obtain ⟨p, xs, rfl, hq, fx, fs, q⟩ := h
  cases ry
  rcases hq with hq | hq
  · obtain ⟨its, r, pl, hz⟩ := I.list hq
    refine SeqAt.notIn_listAt (eqU x) pl.isList (fun w hw => mem_eqAt rx fx r fs w (by simpa using hw)) ⟨.bl _, H, I, rfl, ?_⟩
    rw [show its.toArray.any (eqU x) = its.any (eqU x) by simp, any_eqU r fs]
    exact q
  · obtain ⟨its, r, pl, hz⟩ := I.tuple hq
    refine SeqAt.notIn_tupleAt (eqU x) pl (fun w hw => mem_eqAt rx fx r fs w (by simpa using hw)) ⟨.bl _, H, I, rfl, ?_⟩
    rw [show its.toArray.any (eqU x) = its.any (eqU x) by simp, any_eqU r fs]
    exact q
theorem op_notIn_str : OpR X (compareOp .NotIn) (fun x y H Q => ∃ i j, x = .str i ∧ y = .str j ∧ Q (.bl (!(!(Builtin.Str.occurrences j i 0 j.length 1).isEmpty))) H) := by
  intro pins s σ H x y v u Q I rx ry h
  obtain ⟨i, j, rfl, rfl, q⟩ := h
  obtain ⟨t, rfl⟩ := rx
  obtain ⟨t', rfl⟩ := ry
  exact notIn_str ⟨.bl _, H, I, rfl, q⟩

/-! ### len, list(x), tuple(x) of any list or tuple that is read -/
theorem call_len_seq : CallR X (.builtin "len") (fun xs H Q => ∃ p ys, xs = [.ref p] ∧ (SqL X.K H p ys ∨ SqT X.K H p ys) ∧ Q (.int ys.length) H) := by
  intro pins s σ H xs us Q I r h
  obtain ⟨p, ys, rfl, hq, q⟩ := h
  obtain ⟨u, rfl, rx⟩ := vals1 r
  cases rx
  have hn := line63
  rcases hq with hq | hq
  · obtain ⟨its, r', pl, hz⟩ := I.list hq
    have hlen := r'.length
    exact Calls.call_len_list pl.isList (by simp only [List.size_toArray] <;> omega) ⟨.int ys.length, H, I.tok _, ⟨s.toks + 1, by rw [List.size_toArray, hlen]⟩, q⟩
  · obtain ⟨its, r', pl, hz⟩ := I.tuple hq
    have hlen := r'.length
    exact len_tuple pl (by simp only [List.size_toArray] <;> omega) ⟨.int ys.length, H, I.tok _, ⟨s.toks + 1, by rw [List.size_toArray, hlen]⟩, q⟩
theorem call_len_str : CallR X (.builtin "len") (fun xs H Q => ∃ z, xs = [.str z] ∧ z.length ≤ sizeLine ∧ Q (.int z.length) H) := by
  intro pins s σ H xs us Q I r h
  obtain ⟨z, rfl, hz, q⟩ := h
  obtain ⟨u, rfl, t, rfl⟩ := vals1 r
  have hn := line63
  exact len_str (by omega) ⟨.int z.length, H, I.tok _, ⟨_, rfl⟩, q⟩
theorem CallR.or {f : Value} {r r' : List V → Hp → VK → Prop} (h : CallR X f r) (h' : CallR X f r') : CallR X f (fun xs H Q => r xs H Q ∨ r' xs H Q) := by
  intro pins s σ H xs us Q I rs q
  rcases q with q | q
  · exact h pins s σ H xs us Q I rs q
  · exact h' pins s σ H xs us Q I rs q
theorem call_list_of : CallR X (.type "list") (fun xs H Q => ∃ p ys, xs = [.ref p] ∧ (SqL X.K H p ys ∨ SqT X.K H p ys) ∧ ∀ l, H l = none → Q (.ref l) (upd H l (.lst ys))) := by
  intro pins s σ H xs us Q I r h
  obtain ⟨p, ys, rfl, hq, q⟩ := h
  obtain ⟨u, rfl, rx⟩ := vals1 r
  cases rx
  have fin : ∀ (its : List Value), Vals ys its → ys.length ≤ sizeLine → ∀ (h' : Heap) (c' : Nat), (∀ b o', s.heap.get? b = some o' → h'.get? b = some o') →
      h'.get? s.heap.objs.size = some { cls := .type "list", dict := none, data := .seq its.toArray c', slots := #[] } → EP X pins σ Q (.ref s.heap.objs.size) { s with heap := h' } := fun its r' hz h' c' kp e =>
    ⟨.ref s.heap.objs.size, _, I.laid (t' := s.toks) kp (Nat.le_refl _) (show ObjOk X.prog X.w _ h' _ (.lst ys) from ⟨hz, its, c', r', e⟩), rfl, q _ (I.hok.fresh (Nat.le_refl _))⟩
  rcases hq with hq | hq
  · obtain ⟨its, r', pl, hz⟩ := I.list hq
    have hlen := r'.length
    obtain ⟨o, ho, hc, n, hd⟩ := pl.isList
    exact call_list_seq p (.inl rfl) ho hc hd (fun h' c' kp e => fin its r' hz h' c' kp e) (by simp only [List.size_toArray] <;> omega)
  · obtain ⟨its, r', pl, hz⟩ := I.tuple hq
    have hlen := r'.length
    obtain ⟨o, ho, hc, n, hd⟩ := pl
    exact call_list_seq p (.inr rfl) ho hc hd (fun h' c' kp e => fin its r' hz h' c' kp e) (by simp only [List.size_toArray] <;> omega)
theorem call_tuple_of : CallR X (.type "tuple") (fun xs H Q => ∃ p ys, xs = [.ref p] ∧ ((SqL X.K H p ys ∧ ∀ l, H l = none → Q (.ref l) (upd H l (.tup ys))) ∨ (SqT X.K H p ys ∧ Q (.ref p) H))) := by
  intro pins s σ H xs us Q I r h
  obtain ⟨p, ys, rfl, h⟩ := h
  obtain ⟨u, rfl, rx⟩ := vals1 r
  cases rx
  rcases h with ⟨hq, q⟩ | ⟨hq, q⟩
  · obtain ⟨its, r', pl, hz⟩ := I.list hq
    have hlen := r'.length
    refine call_tuple_list pl.isList (fun h' kp => ?_) (by simp only [List.size_toArray] <;> omega)
    have I1 : Inv X pins σ H { s with heap := h' } := I.kept (t' := s.toks) kp
    have I2 : Inv X pins σ (upd H h'.objs.size (.tup ys)) { s with heap := h'.push { cls := .type "tuple", data := .seq its.toArray } } :=
      I1.laid (t' := s.toks) (fun b o e => Heap.get?_push_of_some _ e) (Nat.le_refl _) (show ObjOk X.prog X.w _ _ _ (.tup ys) from ⟨hz, its, r', IsTup.new _ _⟩)
    exact ⟨.ref h'.objs.size, _, I2, rfl, q _ (I1.hok.fresh (Nat.le_refl _))⟩
  · obtain ⟨its, r', pl, hz⟩ := I.tuple hq
    exact call_tuple_same pl ⟨.ref p, H, I, rfl, q⟩

/-! ### the call of a builtin's method: o.m(..) -/
/-- the value is of that builtin type -/
def tyV (K : PySem.W.Frag) (T : String) (x : V) (H : Hp) : Prop := match x with
  | .str _ => T = "str"
  | .int _ => T = "int"
  | .ref p => (T = "list" ∧ ∃ xs, SqL K H p xs) ∨ (T = "tuple" ∧ ∃ o, K.lookup p = some o ∧ o.cls = .type "tuple" ∧ o.dict = none) ∨
      (T = "dict" ∧ ((∃ kvs, H p = some (.dK kvs)) ∨ ∃ kvs, H p = some (.dT kvs))) ∨ (T = "set" ∧ ∃ S n, H p = some (.set S n))
  | _ => False
theorem tyV_is {pins : List (Addr × Obj)} {σ : St} {H : Hp} {s : Shared} {T : String} {x : V} {v : Value} (I : Inv X pins σ H s) (r : RelV x v) (ty : tyV X.K T x H) :
    s.TypeIs v T ∧ ∀ a, v = .ref a → ∃ ob, s.heap.get? a = some ob ∧ ob.dict = none := by
  cases x with
  | str z =>
    obtain ⟨t, rfl⟩ := r
    cases (show T = "str" from ty)
    exact ⟨typeIs_str s z t, fun _ e => nomatch e⟩
  | int i =>
    obtain ⟨t, rfl⟩ := r
    cases (show T = "int" from ty)
    exact ⟨typeIs_int s i t, fun _ e => nomatch e⟩
  | ref p =>
    cases r
    rcases ty with ⟨rfl, xs, hq⟩ | ⟨rfl, o, hk, hc, hd⟩ | ⟨rfl, hk⟩ | ⟨rfl, S, n, hk⟩
    · obtain ⟨its, _, pl, _⟩ := I.list hq
      refine ⟨pl.isList.typeIs, fun a e => ?_⟩
      cases e
      obtain ⟨o, n, e, c, hd, _⟩ := pl
      exact ⟨o, e, hd⟩
    · refine ⟨⟨o, I.kIn p o hk, hc⟩, fun a e => ?_⟩
      cases e
      exact ⟨o, I.kIn _ o hk, hd⟩
    · have z : ∃ o, s.heap.get? p = some o ∧ o.ExactDict := by
        rcases hk with ⟨kvs, hk⟩ | ⟨kvs, hk⟩
        · obtain ⟨_, _, _, _, o, _, _, e, ex, _⟩ := I.hok p _ hk
          exact ⟨o, e, ex⟩
        · obtain ⟨_, _, _, _, o, _, _, e, ex, _⟩ := I.hok p _ hk
          exact ⟨o, e, ex⟩
      obtain ⟨o, e, ex⟩ := z
      refine ⟨⟨o, e, ex.1⟩, fun a e2 => ?_⟩
      cases e2
      exact ⟨o, e, ex.2.1⟩
    · obtain ⟨o, _, _, _, e, ex, _⟩ := I.hok p _ hk
      refine ⟨⟨o, e, ex.1⟩, fun a e2 => ?_⟩
      cases e2
      exact ⟨o, e, ex.2.1⟩
  | _ => exact False.elim ty
def tBM0 (K : PySem.W.Frag) (T : String) (r : V → List V → Hp → VK → Prop) (to : TE) : TE := fun σ H Q => to σ H fun x H1 => tyV K T x H1 ∧ r x [] H1 Q
def tBM (K : PySem.W.Frag) (T : String) (r : V → List V → Hp → VK → Prop) (to : TE) (t : TA) : TE := fun σ H Q => to σ H fun x H1 => tyV K T x H1 ∧ t σ H1 fun xs H2 => r x xs H2 Q
variable {o e : Expr} {es : List Expr} {to : TE} {t : TA} {name : Str} {apos cpos : Pos} {T id : String} {r : V → List V → Hp → VK → Prop}
theorem pe_bm0 (pa : PlainAttrs T) (slot : Slot T name id) (hty : typeOf (.builtin id) = pure (.type "method_descriptor")) (hm : MtR X id r) (ho : PE X o to)
    (hbase : attributeBase o name X.env (eval o X.env) = eval o X.env := by rfl) (hline : (apos.endLine == cpos.line) = true := by rfl) : PE X (.Call (.Attribute o name apos) [] [] cpos) (tBM0 X.K T r to) := by
  intro pins s σ H Q I h
  refine wpAny_Call_method0_late hbase hline (thn (ho pins s σ H _ I h) fun v s1 ⟨x, H1, I1, r1, ty, q1⟩ => ?_)
  obtain ⟨h1, h2⟩ := tyV_is I1 r1 ty
  exact ⟨T, id, pa, slot, hty, h1, h2, Calls.callWith_builtin rfl (PySem.evalArgs_none (hm pins s1 σ H1 x [] v [] Q I1 r1 .nil q1))⟩
theorem pe_bm (pa : PlainAttrs T) (slot : Slot T name id) (hty : typeOf (.builtin id) = pure (.type "method_descriptor")) (hm : MtR X id r) (ho : PE X o to) (ha : PA X (e :: es) t)
    (hbase : attributeBase o name X.env (eval o X.env) = eval o X.env := by rfl)
    (hfew : ((backTo cpos (starEach (e :: es) X.env)).all (fun x => !x.1) && (backToKw cpos (keywordEach [] X.env)).all (fun x => x.1.isSome)
      && decide ((e :: es).length + ([] : List Keyword).length + (if ([] : List Keyword).isEmpty then 0 else 1) < 30)) = true := by rfl)
    (hline : (apos.endLine == cpos.line) = true := by rfl) (hs : starEach (e :: es) X.env = (false, eval e X.env) :: starEach es X.env := by rfl) (hplain : (backTo cpos (starEach es X.env)).any (·.1) = false := by rfl) :
    PE X (.Call (.Attribute o name apos) (e :: es) [] cpos) (tBM X.K T r to t) := by
  intro pins s σ H Q I h
  refine wpAny_Call_method_late hbase hfew hline rfl (thn (ho pins s σ H _ I h) fun v s1 ⟨x, H1, I1, r1, ty, q1⟩ => ?_)
  obtain ⟨h1, h2⟩ := tyV_is I1 r1 ty
  refine ⟨T, id, pa, slot, hty, h1, h2, ?_⟩
  have hA := ha cpos pins s1 σ H1 _ I1 q1
  rw [hs] at hA ⊢
  refine Calls.callWith_builtin (by show (false || (backTo cpos (starEach es X.env)).any (·.1)) = false; rw [hplain] <;> rfl) (Calls.evalArgs_plain ?_)
  exact thn hA fun us s2 ⟨vs, H2, I2, r2, q2⟩ => hm pins s2 σ H2 x vs v us Q I2 r1 r2 q2
/- xs.append(e), list.index on a module's tuple .. are MtR facts of 06m -/
end
end L2

namespace L2
open PySem PySem.Spec PyProof.Rows

def MtM (X : Cx) (id : String) (r : V → List V → Hp → VK → Prop) : Prop :=
  ∀ (pins : List (Addr × Obj)) (s : Shared) (σ : St) (H : Hp) (x : V) (xs : List V) (v : Value) (us : List Value) (Q : VK), Inv X pins σ H s → RelV x v → Vals xs us → r x xs H Q →
    wpAny (model X.prog X.w) X.A (call (.builtin id) (v :: us)) (EP X pins σ Q) X.xe s

/-! ### lists of values -/
theorem Vals.one : ∀ {x : V} {us : List Value}, Vals [x] us → ∃ u, us = [u] ∧ RelV x u
  | _, _, .cons r .nil => ⟨_, rfl, r⟩
theorem Vals.two : ∀ {x y : V} {us : List Value}, Vals [x, y] us → ∃ u v, us = [u, v] ∧ RelV x u ∧ RelV y v
  | _, _, _, .cons r (.cons q .nil) => ⟨_, _, rfl, r, q⟩
theorem Vals.zero : ∀ {us : List Value}, Vals [] us → us = []
  | _, .nil => rfl
theorem Vals.dropLast {xs : List V} {us : List Value} (h : Vals xs us) : Vals xs.dropLast us.dropLast := by
  induction h with
  | nil => exact .nil
  | cons r t ih =>
    cases t with
    | nil => exact .nil
    | cons q t' => exact .cons r ih
theorem Vals.eraseIdx : ∀ {xs : List V} {us : List Value} (i : Nat), Vals xs us → Vals (xs.eraseIdx i) (us.eraseIdx i)
  | _, _, _, .nil => .nil
  | _, _, 0, .cons _ t => t
  | _, _, i + 1, .cons r t => .cons r (Vals.eraseIdx i t)
theorem Vals.reverse {xs : List V} {us : List Value} (h : Vals xs us) : Vals xs.reverse us.reverse := by
  induction h with
  | nil => exact .nil
  | cons r t ih => rw [List.reverse_cons, List.reverse_cons]; exact Vals.append ih (.cons r .nil)
theorem Vals.rep {xs : List V} {us : List Value} (h : Vals xs us) : ∀ k : Nat, Vals (List.replicate k xs).flatten (List.replicate k us).flatten
  | 0 => .nil
  | k + 1 => by
    rw [List.replicate_succ, List.replicate_succ, List.flatten_cons, List.flatten_cons]
    exact Vals.append h (Vals.rep h k)
theorem erase_last {α : Type} (l : List α) : l.eraseIdx (l.length - 1) = l.dropLast := by
  induction l with
  | nil => rfl
  | cons a r ih =>
    cases r with
    | nil => rfl
    | cons b r =>
      have e : (a :: b :: r).length - 1 = ((b :: r).length - 1) + 1 := by
        have h1 : (a :: b :: r).length = r.length + 2 := rfl
        have h2 : (b :: r).length = r.length + 1 := rfl
        omega
      rw [e, List.eraseIdx_cons_succ, ih]
      all_goals rfl
theorem len_erase {α : Type} : ∀ (l : List α) (i : Nat), (l.eraseIdx i).length ≤ l.length
  | [], _ => Nat.le_refl _
  | _ :: _, 0 => Nat.le_succ _
  | _ :: r, i + 1 => Nat.succ_le_succ (len_erase r i)
theorem foldl_rep (its : List Value) : ∀ (k : Nat) (acc : List Value),
    List.foldl (fun x1 x2 => x1 ++ x2) acc.toArray (List.replicate k its.toArray) = (acc ++ (List.replicate k its).flatten).toArray
  | 0, acc => by simp
  | k + 1, acc => by
    have e : acc.toArray ++ its.toArray = (acc ++ its).toArray := by simp
    have e2 : (acc ++ its) ++ (List.replicate k its).flatten = acc ++ (List.replicate (k + 1) its).flatten := by
      rw [List.replicate_succ, List.flatten_cons, List.append_assoc]
    rw [← e2, ← foldl_rep its k (acc ++ its), ← e, List.replicate_succ, List.foldl_cons]

section
variable {X : Cx} {pins : List (Addr × Obj)} {σ : St} {H : Hp} {s : Shared} {l b : Addr} {xs ys zs : List V}

/-! ### the two steps: a tracked list is rewritten, a new list is laid -/
theorem Inv.lset {its its' : List Value} {n : Nat} {f : Array Value → Array Value} {t' : Nat} (I : Inv X pins σ H s) (hH : H l = some (.lst xs))
    (e : s.heap.get? l = some { cls := .type "list", data := .seq its.toArray n }) (hf : f its.toArray = its'.toArray) (hv : Vals ys its') (hz : ys.length ≤ sizeLine) :
    Inv X pins σ (upd H l (.lst ys)) { s with heap := s.heap.update l (Obj.mapSeq f), toks := t' } := by
  have q := PySem.IsL.update e f
  rw [hf] at q
  refine I.write (x := l) (e := l) (by rw [hH]; exact trivial) (.inl rfl) (fun b' u hb hu => (Heap.get?_update_other s.heap (Obj.mapSeq f) (Ne.symm hb)).trans hu) ⟨_, q⟩ ?_
  exact ⟨hz, its', _, hv, q⟩
theorem Inv.lnew {its : List Value} {t' : Nat} (I : Inv X pins σ H s) (hv : Vals ys its) (hz : ys.length ≤ sizeLine) :
    Inv X pins σ (upd H s.heap.objs.size (.lst ys)) { s with heap := s.heap.push { cls := .type "list", data := .seq its.toArray }, toks := t' } :=
  I.laid (fun _ _ q => Heap.get?_push_of_some _ q) (Nat.le_refl _) ⟨hz, its, 0, hv, Heap.get?_push_size _ rfl⟩
theorem Inv.fresh (I : Inv X pins σ H s) : H s.heap.objs.size = none := I.hok.fresh (Nat.le_refl _)
theorem Inv.lstM (I : Inv X pins σ H s) (hH : H l = some (.lst xs)) : xs.length ≤ sizeLine ∧ ∃ (its : List Value) (n : Nat), Vals xs its ∧ xs.length = its.length ∧ s.heap.get? l = some { cls := .type "list", data := .seq its.toArray n } := by
  obtain ⟨z, its, n, r, e⟩ := I.hok l _ hH
  exact ⟨z, its, n, r, r.length, e⟩

theorem notLongL {n : Nat} (h : n ≤ sizeLine) : Builtin.List.listTooLong n = false := by
  unfold Builtin.List.listTooLong
  exact decide_eq_false (by omega)
end

section
variable {X : Cx}

/-! ### methods -/
def rAppend : V → List V → Hp → VK → Prop := fun x vs H Q => ∃ l xs y, x = .ref l ∧ vs = [y] ∧ H l = some (.lst xs) ∧ xs.length < sizeLine ∧ Q .non (upd H l (.lst (xs ++ [y])))
theorem mt_append : MtM X "list.append" rAppend := by
  intro pins s σ H x vs v us Q I rx rv h
  obtain ⟨l, xs, y, rfl, rfl, hH, hz, q⟩ := h
  cases rx
  obtain ⟨u, rfl, ru⟩ := rv.one
  obtain ⟨z, its, n, r, hl, e⟩ := I.lstM hH
  refine call_meets F.slot_list_append ⟨_, e, rfl⟩ F.entry_list_append (F.args_list_append_2 _ _) (PySem.list_append l its.toArray n u (by rw [List.size_toArray]; omega)) ⟨e, ?_⟩
  refine ⟨.non, _, I.lset (its' := its ++ [u]) hH e (by simp) (r.append (.cons ru .nil)) ?_, rfl, q⟩
  rw [List.length_append, List.length_singleton]
  omega

def rExtend : V → List V → Hp → VK → Prop := fun x vs H Q => ∃ l b xs zs, x = .ref l ∧ vs = [.ref b] ∧ H l = some (.lst xs) ∧ H b = some (.lst zs) ∧ xs.length + zs.length ≤ sizeLine ∧ Q .non (upd H l (.lst (xs ++ zs)))
theorem mt_extend : MtM X "list.extend" rExtend := by
  intro pins s σ H x vs v us Q I rx rv h
  obtain ⟨l, b, xs, zs, rfl, rfl, hH, hB, hz, q⟩ := h
  cases rx
  obtain ⟨u, rfl, ru⟩ := rv.one
  cases ru
  obtain ⟨z, its, n, r, hl, e⟩ := I.lstM hH
  obtain ⟨z2, its2, n2, r2, hl2, e2⟩ := I.lstM hB
  have hsz : its.toArray.size + its2.toArray.size ≤ sizeLine := by rw [List.size_toArray, List.size_toArray]; omega
  have hlong : ¬ (!its.toArray.isEmpty && Builtin.List.listTooLong (its.toArray.size + its2.toArray.size)) = true := by
    rw [notLongL hsz, Bool.and_false]
    exact Bool.false_ne_true
  refine call_meets F.slot_list_extend ⟨_, e, rfl⟩ F.entry_list_extend (F.args_list_extend_2 _ _)
    (AutoSeq1.list_extend_list_list_0 l its.toArray n b its2.toArray n2 hlong (by rw [List.size_toArray]; omega) (by omega)) ⟨e, e2, ?_⟩
  refine ⟨.non, _, I.lset (its' := its ++ its2) hH e (by simp) (r.append r2) ?_, rfl, q⟩
  rw [List.length_append]
  omega

def rPop : V → List V → Hp → VK → Prop := fun x vs H Q => ∃ l xs y, x = .ref l ∧ vs = [] ∧ H l = some (.lst xs) ∧ xs[xs.length - 1]? = some y ∧ Q y (upd H l (.lst xs.dropLast))
theorem mt_pop : MtM X "list.pop" rPop := by
  intro pins s σ H x vs v us Q I rx rv h
  obtain ⟨l, xs, y, rfl, rfl, hH, hy, q⟩ := h
  cases rx
  have hus := rv.zero
  subst hus
  obtain ⟨z, its, n, r, hl, e⟩ := I.lstM hH
  obtain ⟨u, hu, ru⟩ := r.get hy
  have hy' : its.toArray[its.toArray.size - 1]? = some u := by
    show its.toArray[its.length - 1]? = some u
    rw [← Array.getElem?_toList, ← hl]
    exact hu
  refine call_meets F.slot_list_pop ⟨_, e, rfl⟩ F.entry_list_pop (F.args_list_pop_1 _) (MeetsSeq.list_pop_last l its.toArray n u hy' (by rw [List.size_toArray]; omega)) ⟨e, ?_⟩
  refine ⟨y, _, I.lset (its' := its.dropLast) hH e ?_ r.dropLast ?_, ru, q⟩
  · show its.toArray.eraseIdxIfInBounds (its.toArray.size - 1) = its.dropLast.toArray
    rw [List.size_toArray, List.eraseIdxIfInBounds_toArray, erase_last]
  · rw [List.length_dropLast]
    omega

def rPopAt : V → List V → Hp → VK → Prop := fun x vs H Q => ∃ l xs i k y, x = .ref l ∧ vs = [.int i] ∧ H l = some (.lst xs) ∧ -(2 ^ 63) ≤ i ∧ i < 2 ^ 63 ∧ seqIndex? i xs.length = some k ∧ xs[k]? = some y ∧ Q y (upd H l (.lst (xs.eraseIdx k)))
theorem mt_popAt : MtM X "list.pop" rPopAt := by
  intro pins s σ H x vs v us Q I rx rv h
  obtain ⟨l, xs, i, k, y, rfl, rfl, hH, h1, h2, hk, hy, q⟩ := h
  cases rx
  obtain ⟨u, rfl, ru⟩ := rv.one
  obtain ⟨t, rfl⟩ := ru
  obtain ⟨z, its, n, r, hl, e⟩ := I.lstM hH
  obtain ⟨w, hw, rw'⟩ := r.get hy
  refine call_meets F.slot_list_pop ⟨_, e, rfl⟩ F.entry_list_pop (F.args_list_pop_2 _ _)
    (MeetsSeq.list_pop_at l its.toArray n i t k w (fitsIndex_both h1 h2) (by rw [List.size_toArray, ← hl]; exact hk) (by rw [← Array.getElem?_toList]; exact hw) (by rw [List.size_toArray]; omega)) ⟨e, ?_⟩
  refine ⟨y, _, I.lset (its' := its.eraseIdx k) hH e ?_ (r.eraseIdx k) ?_, rw', q⟩
  · show its.toArray.eraseIdxIfInBounds k = (its.eraseIdx k).toArray
    rw [List.eraseIdxIfInBounds_toArray]
  · have := len_erase xs k
    omega

def rReverse : V → List V → Hp → VK → Prop := fun x vs H Q => ∃ l xs, x = .ref l ∧ vs = [] ∧ H l = some (.lst xs) ∧ Q .non (upd H l (.lst xs.reverse))
theorem mt_reverse : MtM X "list.reverse" rReverse := by
  intro pins s σ H x vs v us Q I rx rv h
  obtain ⟨l, xs, rfl, rfl, hH, q⟩ := h
  cases rx
  have hus := rv.zero
  subst hus
  obtain ⟨z, its, n, r, hl, e⟩ := I.lstM hH
  refine call_meets F.slot_list_reverse ⟨_, e, rfl⟩ F.entry_list_reverse (F.args_list_reverse_1 _) (AutoSeq1.list_reverse_list_0 l its.toArray n (by rw [List.size_toArray]; omega)) ⟨e, ?_⟩
  refine ⟨.non, _, I.lset (its' := its.reverse) hH e (by simp) r.reverse ?_, rfl, q⟩
  rw [List.length_reverse]
  omega

def rClear : V → List V → Hp → VK → Prop := fun x vs H Q => ∃ l xs, x = .ref l ∧ vs = [] ∧ H l = some (.lst xs) ∧ Q .non (upd H l (.lst []))
theorem mt_clear : MtM X "list.clear" rClear := by
  intro pins s σ H x vs v us Q I rx rv h
  obtain ⟨l, xs, rfl, rfl, hH, q⟩ := h
  cases rx
  have hus := rv.zero
  subst hus
  obtain ⟨z, its, n, r, hl, e⟩ := I.lstM hH
  refine call_meets F.slot_list_clear ⟨_, e, rfl⟩ F.entry_list_clear (F.args_list_clear_1 _) (AutoSeq1.list_clear_list_0 l its.toArray n (by rw [List.size_toArray]; omega)) ⟨e, ?_⟩
  exact ⟨.non, _, I.lset (its' := []) (ys := []) hH e rfl .nil (Nat.zero_le _), rfl, q⟩

/-! ### list + list, list += list, list * int -/
def rCat : R2 := fun x y H Q => ∃ l b xs zs, x = .ref l ∧ y = .ref b ∧ H l = some (.lst xs) ∧ H b = some (.lst zs) ∧ xs.length + zs.length ≤ sizeLine ∧ ∀ p, H p = none → Q (.ref p) (upd H p (.lst (xs ++ zs)))
theorem op_cat : OpR X (binaryOp .Add) rCat := by
  intro pins s σ H x y v u Q I rx ry h
  obtain ⟨l, b, xs, zs, rfl, rfl, hH, hB, hz, q⟩ := h
  cases rx
  cases ry
  obtain ⟨z, its, n, r, hl, e⟩ := I.lstM hH
  obtain ⟨z2, its2, n2, r2, hl2, e2⟩ := I.lstM hB
  refine PySem.P.add_list e e2 ?_ (by rw [List.size_toArray, List.size_toArray]; omega)
  have ea : its.toArray ++ its2.toArray = (its ++ its2).toArray := by simp
  rw [ea]
  exact ⟨.ref _, _, I.lnew (t' := s.toks) (r.append r2) (by rw [List.length_append]; omega), rfl, q _ I.fresh⟩
/-- a list times an int (a negative one is nothing) -/
def rRep : R2 := fun x y H Q => ∃ l k xs, x = .ref l ∧ y = .int k ∧ H l = some (.lst xs) ∧ -(2 ^ 63) ≤ k ∧ k < 2 ^ 63 ∧ xs.length * k.toNat ≤ sizeLine ∧
  ∀ p, H p = none → Q (.ref p) (upd H p (.lst (List.replicate k.toNat xs).flatten))
theorem len_rep {α : Type} (xs : List α) (k : Nat) : (List.replicate k xs).flatten.length = k * xs.length := by
  induction k with
  | zero => simp
  | succ k ih => rw [List.replicate_succ, List.flatten_cons, List.length_append, ih, Nat.succ_mul, Nat.add_comm]
theorem op_rep : OpR X (binaryOp .Mult) rRep := by
  intro pins s σ H x y v u Q I rx ry h
  obtain ⟨l, k, xs, rfl, rfl, hH, h1, h2, hz, q⟩ := h
  cases rx
  obtain ⟨t, rfl⟩ := ry
  obtain ⟨z, its, n, r, hl, e⟩ := I.lstM hH
  have hlen : its.toArray.size * k.toNat ≤ sizeLine := by rw [List.size_toArray, ← hl]; exact hz
  have hcap : ¬ its.toArray.size * k.toNat > (2 ^ 63 - 1) / 8 := by
    have : (sizeLine : Nat) ≤ (2 ^ 63 - 1) / 8 := by decide
    omega
  have hfit : ¬ (!Builtin.List.listFitsIndex k) = true := by
    rw [fitsIndex_both h1 h2]
    exact Bool.false_ne_true
  have hlong : ¬ Builtin.List.listTooLong (its.toArray.size * k.toNat) = true := by
    rw [notLongL hlen]
    exact Bool.false_ne_true
  have hnew : List.foldl (fun x1 x2 => x1 ++ x2) #[] (List.replicate (if its.toArray.isEmpty = true then 0 else k.toNat) its.toArray) = (List.replicate k.toNat its).flatten.toArray := by
    have f0 : ∀ m : Nat, List.foldl (fun x1 x2 => x1 ++ x2) #[] (List.replicate m its.toArray) = (List.replicate m its).flatten.toArray := fun m => by
      have := foldl_rep its m []
      rw [List.nil_append] at this
      exact this
    rw [f0]
    cases its with
    | nil => simp
    | cons a r' => rw [if_neg (by simp)]
  refine wpAny_binaryOp_repeat_ref (T := "list") (U := "int") (by decide) ⟨_, e, rfl⟩ (fun s' => typeIs_int s' k t) noFill_list_mul F.fills_int_mul F.slot_int_rmul repeat_list F.slot_int_index.lookup
    (call_meets F.slot_int_rmul (typeIs_int s k t) F.entry_int_rmul (F.args_int_rmul_2 _ _) (int___rmul___int_list k t l its.toArray n)
      ⟨e, rfl, ⟨_, e, rfl⟩, call_meets F.slot_list_mul ⟨_, e, rfl⟩ F.entry_list_mul (F.args_list_mul_2 _ _) (AutoListH.list___mul___list_int_3 l its.toArray n k t hfit hcap hlong) ⟨e, ?_⟩⟩)
  rw [hnew]
  exact ⟨.ref _, _, I.lnew (t' := s.toks) (r.rep k.toNat) (by rw [len_rep, Nat.mul_comm]; exact hz), rfl, q _ I.fresh⟩

/-! ### del xs[i] -/
theorem del_list {pins : List (Addr × Obj)} {s : Shared} {σ : St} {H : Hp} {l : Addr} {xs : List V} {i : Int} {t : Tok} {k : Nat} {Q : Unit → Shared → Prop} (I : Inv X pins σ H s) (hH : H l = some (.lst xs))
    (h1 : -(2 ^ 63) ≤ i) (h2 : i < 2 ^ 63) (hk : seqIndex? i xs.length = some k) (h : ∀ s', Inv X pins σ (upd H l (.lst (xs.eraseIdx k))) s' → Q () s') :
    wpAny (model X.prog X.w) X.A (delItem (.ref l) (.int i t)) Q X.xe s := by
  obtain ⟨z, its, n, r, hl, e⟩ := I.lstM hH
  refine PySem.P.delItem_list (k := k) e (fitsIndex_both h1 h2) (by rw [List.size_toArray, ← hl]; exact hk) (h _ ?_) (by rw [List.size_toArray]; omega)
  refine I.lset (its' := its.eraseIdx k) (t' := s.toks) hH e ?_ (r.eraseIdx k) ?_
  · show its.toArray.eraseIdxIfInBounds k = (its.eraseIdx k).toArray
    rw [List.eraseIdxIfInBounds_toArray]
  · have := len_erase xs k
    omega
end

/-! ### xs[a:b] = ys -/
section
variable {prog : Program} {w : World} {A : Around} {E : Value → Shared → Prop} {s : Shared}
theorem splice_eq (its its2 : List Value) (a c : Nat) : its.toArray.extract 0 a ++ its2.toArray ++ its.toArray.extract c its.toArray.size = (its.take a ++ its2 ++ its.drop c).toArray := by
  apply Array.toList_inj.mp
  first
    | (simp
       exact List.take_of_length_le (by simp))
    | simp [List.take_of_length_le]
    | simp
theorem bounds_run {a c n : Nat} (hac : a ≤ c) (hc : c ≤ n) : sliceBounds (some (a : Int)) (some (c : Int)) none n = ((a : Int), (c : Int), 1) := by
  simp only [sliceBounds, Option.getD_none]
  have h1 : ¬ ((a : Int) < 0) := by omega
  have h2 : ¬ ((c : Int) < 0) := by omega
  simp only [h1, h2, if_false, show (1 : Int) > 0 by decide, if_true]
  congr 1
  · omega
  · congr 1; omega
set_option maxRecDepth 100000 in
/-- list.__setitem__ with a slice of step one and another list -/
theorem setItem_slice {l b sl : Addr} {items new : Array Value} {n n2 : Nat} {vl vu : Value} {a c : Nat} {Q : Unit → Shared → Prop}
    (e : s.heap.get? l = some { cls := .type "list", data := .seq items n }) (e2 : s.heap.get? b = some { cls := .type "list", data := .seq new n2 }) (hne : l ≠ b)
    (hs : s.heap.IsSliceOf sl vl vu .none) (pl : IsPart vl (some (a : Int))) (pu : IsPart vu (some (c : Int))) (hac : a ≤ c) (hc : c ≤ items.size)
    (hsz : items.size + new.size ≤ sizeLine) (h : Q () { s with heap := s.heap.update l (Obj.mapSeq fun xs => xs.extract 0 a ++ new ++ xs.extract c xs.size) }) :
    wpAny (model prog w) A (setItem (.ref l) (.ref sl) (.ref b)) Q E s := by
  have hl : s.heap.IsList l items := PySem.IsL.isList e
  have hb : s.heap.IsList b new := PySem.IsL.isList e2
  obtain ⟨os, hos, hcs, hds⟩ := id hs
  have hTs : s.TypeIs (.ref sl) "slice" := ⟨os, hos, hcs⟩
  have hstep : ¬ ((rawPart none == rawInt 0) = true) := Bool.false_ne_true
  have hsame : Builtin.List.listSameRef (.ref l) (.ref b) = false := by
    unfold Builtin.List.listSameRef
    exact beq_eq_false_iff_ne.mpr hne
  have hmax : (max (a : Int) (c : Int)).toNat = c := by omega
  have hz' : ((fun xs : Array Value => xs.extract 0 a ++ new ++ xs.extract c xs.size) items).size ≤ sizeLine + 1 := by
    simp only [Array.size_append, Array.size_extract]
    omega
  unfold setItem
  try with_reducible refine wpAny_holding ?_
  first | refine wpAny_bind (wpAny_pure ?_) | skip
  refine wpAny_bind (wpAny_sequenceKey hl.typeIs (by decide) ?_)
  refine wpAny_bind (wpAny_callSpecial?_slot (name := Str.ofString "__setitem__") hl.typeIs slot_list_setitem
    (wpAny_call_entry slot_list_setitem hl.typeIs entry_list_setitem ?_ (args_list_setitem _ _ _)))
  show wpAny _ _ (Builtin.List.listSubscript? (.ref sl) >>= _) _ _ s
  refine wpAny_bind ?_
  unfold Builtin.List.listSubscript?
  refine wpAny_bind (wpAny_specialOf hTs slice_no_index ?_)
  simp only [Option.isNone_none, if_true]
  refine wpAny_pure ?_
  show wpAny _ _ (typeOf (.ref sl) >>= _) _ _ s
  refine wpAny_bind (wpAny_typeOf hTs ?_)
  first
    | rw [if_neg (by decide)]
    | refine PySem.W.KFB.if_not (by decide) ?_
  rw [listSliceParts_eq]
  refine wpAny_bind (wpAny_bind (wpAny_field hos hds (x := .none) rfl (wpAny_bind (wpAny_listPart .none ?_))))
  rw [if_neg hstep]
  refine wpAny_bind (wpAny_field hos hds (x := vl) rfl (wpAny_bind (wpAny_listPart pl ?_)))
  refine wpAny_bind (wpAny_field hos hds (x := vu) rfl (wpAny_bind (wpAny_listPart pu (wpAny_pure ?_))))
  first
    | simp only [hsame, Bool.false_eq_true, if_false]
    | refine PySem.W.KFB.if_not hsame ?_
    | (dsimp only
       rw [if_neg (by rw [hsame]; exact Bool.false_ne_true)])
  refine wpAny_bind (m := Builtin.List.listAllItems (.ref b) "must assign iterable to extended slice") ?_
  unfold Builtin.List.listAllItems
  refine wpAny_bind (wpAny_typeOf hb.typeIs ?_)
  first
    | refine PySem.W.KFB.if_so (by decide) ?_
    | rw [if_pos (by decide)]
    | simp only [beq_self_eq_true, Bool.true_or, if_true]
  unfold Builtin.List.listItems
  refine wpAny_bind (wpAny_seqItems e2 rfl (wpAny_pure ?_))
  refine wpAny_bind (wpAny_bind (wpAny_seqItems e rfl (wpAny_pure ?_)))
  refine wpAny_bind (wpAny_of_eq ((sliceIndices_raw (some (a : Int)) (some (c : Int)) none items.size (by simp)).trans (congrArg (pure : Int × Int × Int → Sem (Int × Int × Int)) (bounds_run hac hc))) ?_)
  show wpAny _ _ (if ((1 : Int) == 1) = true then _ else _) _ _ s
  rw [if_pos (by decide)]
  refine wpAny_bind (wpAny_rule ?_)
  first
    | simp only [notLongL hsz, Bool.false_eq_true, if_false]
    | refine PySem.W.KFB.if_not (notLongL hsz) ?_
  first | refine wpAny_bind (wpAny_pure ?_) | skip
  show wpAny _ _ (updateSeq l (fun xs => xs.extract 0 ((a : Int)).toNat ++ new ++ xs.extract (max (a : Int) (c : Int)).toNat xs.size) >>= _) _ _ s
  rw [hmax, Int.toNat_natCast]
  refine wpAny_bind (wpAny_updateSeq (hz := Nat.le_trans (Nat.le_add_right _ _) hsz) (_hz' := hz') e rfl ?_)
  refine wpAny_bind (wpAny_letGo ?_)
  first
    | exact wpAny_bind (wpAny_pure (wpAny_pure ⟨.none, rfl, wpAny_pure h⟩))
    | exact wpAny_pure ⟨.none, rfl, wpAny_pure h⟩
end

section
variable {X : Cx}
/-- xs[a:c] = ys of another list, at the value level: sl is the slice object that was just made -/
theorem set_slice {pins : List (Addr × Obj)} {s : Shared} {σ : St} {H : Hp} {l b sl : Addr} {xs ys : List V} {a c : Int} {vl vu : Value} {Q : Unit → Shared → Prop} (I : Inv X pins σ H s)
    (hH : H l = some (.lst xs)) (hB : H b = some (.lst ys)) (hne : l ≠ b) (hs : s.heap.IsSliceOf sl vl vu .none) (ra : RelV (.int a) vl) (rc : RelV (.int c) vu) (h0 : 0 ≤ a) (hac : a ≤ c) (hc : c ≤ xs.length)
    (hz : xs.length + ys.length ≤ sizeLine) (h : ∀ s', Inv X pins σ (upd H l (.lst (xs.take a.toNat ++ ys ++ xs.drop c.toNat))) s' → Q () s') :
    wpAny (model X.prog X.w) X.A (setItem (.ref l) (.ref sl) (.ref b)) Q X.xe s := by
  obtain ⟨ta, rfl⟩ := ra
  obtain ⟨tc, rfl⟩ := rc
  obtain ⟨z, its, n, r, hl, e⟩ := I.lstM hH
  obtain ⟨z2, its2, n2, r2, hl2, e2⟩ := I.lstM hB
  obtain ⟨a', rfl⟩ := Int.eq_ofNat_of_zero_le h0
  obtain ⟨c', rfl⟩ := Int.eq_ofNat_of_zero_le (Int.le_trans h0 hac)
  simp only [Int.toNat_natCast] at h
  refine setItem_slice (a := a') (c := c') e e2 hne hs (.int _ _) (.int _ _) (by omega) (by rw [List.size_toArray]; omega) (by rw [List.size_toArray, List.size_toArray]; omega) (h _ ?_)
  refine I.lset (its' := its.take a' ++ its2 ++ its.drop c') (t' := s.toks) hH e ?_ (Vals.append (Vals.append (r.take _) r2) (r.drop _)) ?_
  · exact splice_eq its its2 a' c'
  · rw [List.length_append, List.length_append, List.length_take, List.length_drop]
    omega
end
end L2

namespace L2
open PySem PySem.Spec PyProof.Rows

/-! ### lists of pairs as tables -/
section
variable {κ : Type} [DecidableEq κ]
def valV (kvs : List (κ × V)) (k : κ) : Option V := (kvs.find? fun kv => decide (kv.1 = k)).map (·.2)
/-- in its place, or at the end -/
def putK (kvs : List (κ × V)) (k : κ) (v : V) : List (κ × V) :=
  if (kvs.any fun kv => decide (kv.1 = k)) = true then kvs.map (fun kv => if kv.1 = k then (kv.1, v) else kv) else kvs ++ [(k, v)]
def dropK (kvs : List (κ × V)) (k : κ) : List (κ × V) := kvs.filter fun kv => decide (kv.1 ≠ k)

theorem valV_nil {k : κ} : valV ([] : List (κ × V)) k = none := rfl
theorem valV_pos {p : κ × V} {r : List (κ × V)} {k : κ} (e : p.1 = k) : valV (p :: r) k = some p.2 := by simp [valV, List.find?_cons, e]
theorem valV_neg {p : κ × V} {r : List (κ × V)} {k : κ} (e : ¬ p.1 = k) : valV (p :: r) k = valV r k := by simp [valV, List.find?_cons, e]
theorem valV_any (k : κ) : ∀ kvs : List (κ × V), (kvs.any fun kv => decide (kv.1 = k)) = (valV kvs k).isSome
  | [] => rfl
  | p :: r => by
    rw [List.any_cons]
    by_cases e : p.1 = k
    · simp only [valV_pos e, decide_eq_true e, Bool.true_or, Option.isSome_some]
    · rw [valV_neg e, decide_eq_false e, Bool.false_or]; exact valV_any k r
theorem valV_map (k j : κ) (y : V) : ∀ kvs : List (κ × V), valV (kvs.map fun kv => if kv.1 = k then (kv.1, y) else kv) j = (valV kvs j).map fun x => if j = k then y else x
  | [] => rfl
  | p :: r => by
    have ih := valV_map k j y r
    rw [List.map_cons]
    by_cases h : p.1 = k
    · rw [if_pos h]
      by_cases e : p.1 = j
      · rw [valV_pos (p := (p.1, y)) e, valV_pos e, Option.map_some, if_pos (e.symm.trans h)]
      · rw [valV_neg (p := (p.1, y)) e, valV_neg e, ih]
    · rw [if_neg h]
      by_cases e : p.1 = j
      · rw [valV_pos (p := p) e, valV_pos e, Option.map_some, if_neg (fun z => h (e.trans z))]
      · rw [valV_neg (p := p) e, valV_neg e, ih]
theorem valV_snoc (k j : κ) (y : V) : ∀ kvs : List (κ × V), valV kvs k = none → valV (kvs ++ [(k, y)]) j = if j = k then some y else valV kvs j
  | [], _ => by
    by_cases e : k = j
    · rw [if_pos e.symm]; exact valV_pos (p := (k, y)) e
    · rw [if_neg (fun z => e z.symm)]; exact valV_neg (p := (k, y)) e
  | p :: r, hn => by
    rw [List.cons_append]
    have hk : ¬ p.1 = k := fun z => by rw [valV_pos z] at hn; cases hn
    rw [valV_neg hk] at hn
    have ih := valV_snoc k j y r hn
    by_cases e : p.1 = j
    · rw [valV_pos e, valV_pos e, if_neg (fun z => hk (e.trans z))]
    · rw [valV_neg e, valV_neg e, ih]
theorem valV_put (kvs : List (κ × V)) (k j : κ) (y : V) : valV (putK kvs k y) j = if j = k then some y else valV kvs j := by
  unfold putK
  by_cases a : (kvs.any fun kv => decide (kv.1 = k)) = true
  · rw [if_pos a, valV_map]
    rw [valV_any] at a
    by_cases e : j = k
    · obtain ⟨x, hx⟩ := Option.isSome_iff_exists.mp a
      rw [if_pos e, e, hx, Option.map_some, if_pos rfl]
    · rw [if_neg e]
      cases valV kvs j with
      | none => rfl
      | some x => rw [Option.map_some, if_neg e]
  · rw [if_neg a]
    refine valV_snoc k j y kvs ?_
    rw [valV_any] at a
    cases q : valV kvs k with
    | none => rfl
    | some x => rw [q] at a; exact (a rfl).elim
theorem length_putK (kvs : List (κ × V)) (k : κ) (v : V) : (putK kvs k v).length ≤ kvs.length + 1 := by
  unfold putK
  split
  · rw [List.length_map]; omega
  · rw [List.length_append, List.length_cons, List.length_nil]; omega
theorem putK_new {kvs : List (κ × V)} {k : κ} (v : V) (h : valV kvs k = none) : putK kvs k v = kvs ++ [(k, v)] := by
  unfold putK
  rw [valV_any, h]
  exact if_neg (by decide)

theorem RelO.isSome_eq {o : Option V} {u : Option Value} (r : RelO o u) : o.isSome = u.isSome := by
  cases o with
  | none => cases u with
    | none => rfl
    | some _ => exact (show False from r).elim
  | some _ => cases u with
    | none => exact (show False from r).elim
    | some _ => rfl
theorem RelO.getD {o : Option V} {u : Option Value} {d : V} {d' : Value} (r : RelO o u) (rd : RelV d d') : RelV (o.getD d) (u.getD d') := by
  cases o with
  | none => cases u with
    | none => exact rd
    | some _ => exact (show False from r).elim
  | some _ => cases u with
    | none => exact (show False from r).elim
    | some _ => exact r

/-- raw tables of the same keys -/
theorem KV.val {kvs : List (κ × V)} {vs : List (κ × Value)} (r : KV kvs vs) (k : κ) : RelO (valV kvs k) (valueAt vs k) := by
  unfold KV at r
  induction r with
  | nil => exact True.intro
  | @cons p q ps qs h t ih =>
    obtain ⟨h1, h2⟩ := h
    by_cases e : p.1 = k
    · have e' : q.1 = k := h1.symm.trans e
      have b : valueAt (q :: qs) k = some q.2 := by simp [valueAt, List.find?_cons, e']
      rw [valV_pos e, b]; exact h2
    · have e' : ¬ q.1 = k := fun z => e (h1.trans z)
      have b : valueAt (q :: qs) k = valueAt qs k := by simp [valueAt, List.find?_cons, e']
      rw [valV_neg e, b]; exact ih
theorem KV.any {kvs : List (κ × V)} {vs : List (κ × Value)} (r : KV kvs vs) (k : κ) : (kvs.any fun kv => decide (kv.1 = k)) = vs.any fun kv => decide (kv.1 = k) := by
  unfold KV at r
  induction r with
  | nil => rfl
  | cons h t ih => rw [List.any_cons, List.any_cons, ih, h.1]
theorem KV.repl {kvs : List (κ × V)} {vs : List (κ × Value)} (r : KV kvs vs) (k : κ) {y : V} {u : Value} (ry : RelV y u) :
    KV (kvs.map fun kv => if kv.1 = k then (kv.1, y) else kv) (vs.map fun kv => if kv.1 = k then (kv.1, u) else kv) := by
  unfold KV at r ⊢
  induction r with
  | nil => exact .nil
  | @cons p q ps qs h t ih =>
    rw [List.map_cons, List.map_cons]
    refine .cons ?_ ih
    obtain ⟨h1, h2⟩ := h
    by_cases e : p.1 = k
    · rw [if_pos e, if_pos (h1.symm.trans e)]; exact ⟨h1, ry⟩
    · rw [if_neg e, if_neg (fun z => e (h1.trans z))]; exact ⟨h1, h2⟩
theorem KV.put {kvs : List (κ × V)} {vs : List (κ × Value)} (r : KV kvs vs) (k : κ) {y : V} {u : Value} (ry : RelV y u) : KV (putK kvs k y) (stored vs k u) := by
  unfold putK stored
  rw [r.any k]
  by_cases e : (vs.any fun kv => decide (kv.1 = k)) = true
  · rw [if_pos e, if_pos e]; exact r.repl k ry
  · rw [if_neg e, if_neg e]; exact Paired.snoc r ⟨rfl, ry⟩
theorem KV.drop {kvs : List (κ × V)} {vs : List (κ × Value)} (r : KV kvs vs) (k : κ) : KV (dropK kvs k) (without vs k) := by
  unfold KV at r ⊢
  unfold dropK without
  induction r with
  | nil => exact .nil
  | @cons p q ps qs h t ih =>
    obtain ⟨h1, h2⟩ := h
    rw [List.filter_cons, List.filter_cons]
    by_cases e : p.1 = k
    · have a : ¬ decide (p.1 ≠ k) = true := by simp [e]
      have b : ¬ decide (q.1 ≠ k) = true := by simp [h1.symm.trans e]
      rw [if_neg a, if_neg b]; exact ih
    · have e' : ¬ q.1 = k := fun z => e (h1.trans z)
      have a : decide (p.1 ≠ k) = true := by simp [e]
      have b : decide (q.1 ≠ k) = true := by simp [e']
      rw [if_pos a, if_pos b]; exact .cons ⟨h1, h2⟩ ih
theorem KV.keys {kvs : List (κ × V)} {vs : List (κ × Value)} (r : KV kvs vs) : kvs.map (·.1) = vs.map (·.1) := by
  unfold KV at r
  induction r with
  | nil => rfl
  | cons h t ih => rw [List.map_cons, List.map_cons, ih, h.1]
theorem KV.length {kvs : List (κ × V)} {vs : List (κ × Value)} (r : KV kvs vs) : kvs.length = vs.length := Paired.length r
theorem dropK_le (kvs : List (κ × V)) (k : κ) : (dropK kvs k).length ≤ kvs.length := List.length_filter_le _ _
end


/-! ### a tracked dict, its keys ints and texts or tuples of these -/
theorem kV_is {P : Program} {w : World} {k : Key} {u : Value} (r : RelV (kV k) u) : (mixKind P w).is k u = true := by
  cases k with
  | inl i => obtain ⟨t, e⟩ := (show ∃ t, u = Value.int i t from r); subst e; exact mixKind_int P w i t
  | inr x => obtain ⟨t, e⟩ := (show ∃ t, u = Value.str x t from r); subst e; exact mixKind_str P w x t
theorem kV_inj {a b : Key} (e : kV a = kV b) : a = b := by
  cases a with
  | inl i => cases b with
    | inl j => have e' : V.int i = V.int j := e; injection e' with e'; rw [e']
    | inr y => exact nomatch (show V.int i = V.str y from e)
  | inr x => cases b with
    | inl j => exact nomatch (show V.str x = V.int j from e)
    | inr y => have e' : V.str x = V.str y := e; injection e' with e'; rw [e']
theorem kVs_inj : ∀ {a b : List Key}, a.map kV = b.map kV → a = b
  | [], [], _ => rfl
  | [], _ :: _, e => by simp at e
  | _ :: _, [], e => by simp at e
  | x :: xs, y :: ys, e => by
    rw [List.map_cons, List.map_cons] at e
    injection e with e1 e2
    rw [kV_inj e1, kVs_inj e2]
theorem items_are {P : Program} {w : World} : ∀ {ks : List Key} {us : List Value}, Vals (ks.map kV) us → ItemsAre (mixKind P w) ks us
  | [], _, r => by rw [List.map_nil] at r; cases r; exact .nil
  | k :: ks, _, r => by
    rw [List.map_cons] at r
    cases r with
    | cons h t => exact .cons (kV_is h) (items_are t)

/-- raw entries of a dict with tuple keys -/
abbrev KT (H : Hp) : List (List Key × V) → List (List Key × Addr × Value) → Prop := Paired fun p q => p.1 = q.1 ∧ H q.2.1 = some (.tup (p.1.map kV)) ∧ RelV p.2 q.2.2
theorem KT.val {H : Hp} {kvs : List (List Key × V)} {xs : List (List Key × Addr × Value)} (r : KT H kvs xs) (k : List Key) : RelO (valV kvs k) ((atKey xs k).map (·.2)) := by
  induction r with
  | nil => exact True.intro
  | @cons p q ps qs h t ih =>
    obtain ⟨h1, _, h2⟩ := h
    by_cases e : p.1 = k
    · have e' : q.1 = k := h1.symm.trans e
      have b : atKey (q :: qs) k = some q.2 := by simp [atKey, List.find?_cons, e']
      rw [valV_pos e, b]; exact h2
    · have e' : ¬ q.1 = k := fun z => e (h1.trans z)
      have b : atKey (q :: qs) k = atKey qs k := by simp [atKey, List.find?_cons, e']
      rw [valV_neg e, b]; exact ih
theorem KT.repl {H : Hp} {kvs : List (List Key × V)} {xs : List (List Key × Addr × Value)} (r : KT H kvs xs) (k : List Key) {y : V} {u : Value} (ry : RelV y u) :
    KT H (kvs.map fun kv => if kv.1 = k then (kv.1, y) else kv) (xs.map (putAt k u)) := by
  induction r with
  | nil => exact .nil
  | @cons p q ps qs h t ih =>
    rw [List.map_cons, List.map_cons]
    refine .cons ?_ ih
    obtain ⟨h1, h2, h3⟩ := h
    unfold putAt
    by_cases e : p.1 = k
    · rw [if_pos e, if_pos (h1.symm.trans e)]; exact ⟨h1, h2, ry⟩
    · rw [if_neg e, if_neg (fun z => e (h1.trans z))]; exact ⟨h1, h2, h3⟩
theorem KT.put {H : Hp} {kvs : List (List Key × V)} {xs : List (List Key × Addr × Value)} (r : KT H kvs xs) (k : List Key) {b : Addr} {y : V} {u : Value} (hb : H b = some (.tup (k.map kV))) (ry : RelV y u) :
    KT H (putK kvs k y) (storedH xs k b u) := by
  have e : (kvs.any fun kv => decide (kv.1 = k)) = (atKey xs k).isSome := by
    rw [valV_any, (r.val k).isSome_eq, Option.isSome_map]
  unfold putK storedH
  rw [e]
  by_cases q : (atKey xs k).isSome = true
  · rw [if_pos q, if_pos q]; exact r.repl k ry
  · rw [if_neg q, if_neg q]; exact Paired.snoc r ⟨rfl, hb, ry⟩
theorem KT.keeps {H H' : Hp} {kvs : List (List Key × V)} {xs : List (List Key × Addr × Value)} (r : KT H kvs xs) (ht : ∀ b ys, H b = some (.tup ys) → H' b = some (.tup ys)) : KT H' kvs xs :=
  Paired.mapP r fun _ _ z => ⟨z.1, ht _ _ z.2.1, z.2.2⟩

section
variable {P : Program} {w : World} {H : Hp} {h : Heap} {a : Addr}
theorem rd_of {u : HO} (ok : HOk P w H h) (e : Rd H a u) : ObjOk P w H h a u := e.ok ok
theorem dk_rd {kvs : List (Key × V)} (ok : HOk P w H h) (e : Rd H a (.dK kvs)) : kvs.length ≤ sizeLine ∧ (a == sysModules) = false ∧ ∃ vs, KV kvs vs ∧ h.DictOf (mixKind P w) a vs :=
  show ObjOk P w H h a (.dK kvs) from rd_of ok e
theorem dk_of {kvs : List (Key × V)} (ok : HOk P w H h) (e : H a = some (.dK kvs)) : kvs.length ≤ sizeLine ∧ (a == sysModules) = false ∧ ∃ vs, KV kvs vs ∧ h.DictOf (mixKind P w) a vs := dk_rd ok (.inl e)
/-- a tracked tuple of ints and texts is a key -/
theorem key_of {ks : List Key} (ok : HOk P w H h) (e : H a = some (.tup (ks.map kV))) : (tupleKind (mixKind P w)).is h ks a := by
  obtain ⟨_, its, r, o, h1, h2, n, h3⟩ := (show ObjOk P w H h a (.tup (ks.map kV)) from ok a _ e)
  exact ⟨o, its.toArray, n, h1, h2, h3, by simpa using items_are r⟩
theorem dt_rd {kvs : List (List Key × V)} (ok : HOk P w H h) (e : Rd H a (.dT kvs)) : kvs.length ≤ sizeLine ∧ (a == sysModules) = false ∧
    ∃ xs, KT H kvs xs ∧ h.DictOfH (tupleKind (mixKind P w)) a xs := by
  obtain ⟨z, y, xs, r, o, es, ep, h1, h2, h3, h4, h5⟩ := (show ObjOk P w H h a (.dT kvs) from rd_of ok e)
  refine ⟨z, y, xs, r, o, es, ep, h1, h2, h3, h4, fun x hx => ?_, h5⟩
  have all : ∀ {l : List (List Key × V)} {m : List (List Key × Addr × Value)}, KT H l m → ∀ x ∈ m, (tupleKind (mixKind P w)).is h x.1 x.2.1 := by
    intro l m q
    induction q with
    | nil => intro x hx; exact nomatch hx
    | @cons p q ps qs hq t ih =>
      intro x hx
      rcases List.mem_cons.mp hx with e | hx
      · subst e
        exact key_of ok (by rw [← hq.1]; exact hq.2.1)
      · exact ih x hx
  exact all r x hx
theorem dt_of {kvs : List (List Key × V)} (ok : HOk P w H h) (e : H a = some (.dT kvs)) : kvs.length ≤ sizeLine ∧ (a == sysModules) = false ∧
    ∃ xs, KT H kvs xs ∧ h.DictOfH (tupleKind (mixKind P w)) a xs := dt_rd ok (.inl e)
end

/-- what the dict at a holds at the key y -/
def DGet (H : Hp) (a : Addr) (y : V) (r : Option V) : Prop :=
  (∃ kvs k, Rd H a (.dK kvs) ∧ y = kV k ∧ r = valV kvs k) ∨ ∃ kvs k b, Rd H a (.dT kvs) ∧ y = .ref b ∧ H b = some (.tup (k.map kV)) ∧ r = valV kvs k
/-- the heap behind a[y] = v -/
def DPut (H : Hp) (a : Addr) (y v : V) (H' : Hp) : Prop :=
  (∃ kvs k, H a = some (.dK kvs) ∧ y = kV k ∧ kvs.length < sizeLine ∧ H' = upd H a (.dK (putK kvs k v))) ∨
  ∃ kvs k b, H a = some (.dT kvs) ∧ y = .ref b ∧ H b = some (.tup (k.map kV)) ∧ kvs.length < sizeLine ∧ H' = upd H a (.dT (putK kvs k v))
theorem DGet.k {H : Hp} {a : Addr} {kvs : List (Key × V)} {k : Key} (e : H a = some (.dK kvs)) : DGet H a (kV k) (valV kvs k) := .inl ⟨kvs, k, .inl e, rfl, rfl⟩
theorem DGet.t {H : Hp} {a b : Addr} {kvs : List (List Key × V)} {k : List Key} (e : H a = some (.dT kvs)) (eb : H b = some (.tup (k.map kV))) : DGet H a (.ref b) (valV kvs k) := .inr ⟨kvs, k, b, .inl e, rfl, eb, rfl⟩
theorem DPut.k {H : Hp} {a : Addr} {kvs : List (Key × V)} {k : Key} {v : V} (e : H a = some (.dK kvs)) (hl : kvs.length < sizeLine) : DPut H a (kV k) v (upd H a (.dK (putK kvs k v))) := .inl ⟨kvs, k, e, rfl, hl, rfl⟩
theorem DPut.t {H : Hp} {a b : Addr} {kvs : List (List Key × V)} {k : List Key} {v : V} (e : H a = some (.dT kvs)) (eb : H b = some (.tup (k.map kV))) (hl : kvs.length < sizeLine) :
    DPut H a (.ref b) v (upd H a (.dT (putK kvs k v))) := .inr ⟨kvs, k, b, e, rfl, eb, hl, rfl⟩


section
variable {X : Cx} {pins : List (Addr × Obj)} {σ : St} {H : Hp} {s : Shared} {a : Addr} {y v : V} {u r : Value} {o : Option V} {A : Around} {E : Value → Shared → Prop}

theorem Inv.big (I : Inv X pins σ H s) : sysModules < s.heap.objs.size := by
  have h : mainGlobals < s.heap.objs.size := (I.mod.glob.keeps I.bk).lt
  exact Nat.lt_trans (by decide) h

/-- d[y], there -/
theorem d_getItem {Q : Value → Shared → Prop} (hu : A.units + 1 < cLine) (I : Inv X pins σ H s) (g : DGet H a y (some v)) (ry : RelV y u) (h : ∀ w' s', Inv X pins σ H s' → RelV v w' → Q w' s') :
    wpAny (model X.prog X.w) A (getItem (.ref a) u) Q E s := by
  rcases g with ⟨kvs, k, e, ey, l⟩ | ⟨kvs, k, b, e, ey, eb, l⟩
  · subst ey
    obtain ⟨z, hd, vs, rel, dd⟩ := dk_rd I.hok e
    obtain ⟨w', hw, rw'⟩ := RelO.some_of (v := v) (o := valueAt vs k) (by rw [l]; exact rel.val k)
    exact wpAny_getItem_of (kV_is ry) dd.mapOf hw (h w' _ (I.tok _) rw')
  · subst ey
    cases (show u = Value.ref b from ry)
    obtain ⟨z, hd, xs, rel, dd⟩ := dt_rd I.hok e
    obtain ⟨w', hw, rw'⟩ := RelO.some_of (v := v) (o := (atKey xs k).map (·.2)) (by rw [l]; exact rel.val k)
    obtain ⟨p, hp, hp2⟩ := Option.map_eq_some_iff.mp hw
    refine wpAny_getItem_heap (tupleKind_room_in1 hu) (key_of I.hok eb) dd hp ?_
    rw [hp2]
    exact h w' _ (I.tok _) rw'
/-- y in d -/
theorem d_in {Q : Value → Shared → Prop} (hu : A.units + 1 < cLine) (I : Inv X pins σ H s) (g : DGet H a y o) (ry : RelV y u) (h : ∀ s', Inv X pins σ H s' → Q (.bool o.isSome) s') :
    wpAny (model X.prog X.w) A (compareOp .In u (.ref a)) Q E s := by
  rcases g with ⟨kvs, k, e, ey, l⟩ | ⟨kvs, k, b, e, ey, eb, l⟩
  · subst ey
    obtain ⟨z, hd, vs, rel, dd⟩ := dk_rd I.hok e
    refine wpAny_in_of (kV_is ry) hd dd.mapOf ?_
    rw [← (rel.val k).isSome_eq, ← l]
    exact h _ (I.tok _)
  · subst ey
    cases (show u = Value.ref b from ry)
    obtain ⟨z, hd, xs, rel, dd⟩ := dt_rd I.hok e
    refine wpAny_in_heap (tupleKind_room_in1 hu) (key_of I.hok eb) hd dd ?_
    have q := (rel.val k).isSome_eq
    rw [Option.isSome_map] at q
    rw [← q, ← l]
    exact h _ (I.tok _)
theorem d_notIn {Q : Value → Shared → Prop} (hu : A.units + 1 < cLine) (I : Inv X pins σ H s) (g : DGet H a y o) (ry : RelV y u) (h : ∀ s', Inv X pins σ H s' → Q (.bool (!o.isSome)) s') :
    wpAny (model X.prog X.w) A (compareOp .NotIn u (.ref a)) Q E s := by
  rcases g with ⟨kvs, k, e, ey, l⟩ | ⟨kvs, k, b, e, ey, eb, l⟩
  · subst ey
    obtain ⟨z, hd, vs, rel, dd⟩ := dk_rd I.hok e
    refine wpAny_notIn_of (kV_is ry) hd dd.mapOf ?_
    rw [← (rel.val k).isSome_eq, ← l]
    exact h _ (I.tok _)
  · subst ey
    cases (show u = Value.ref b from ry)
    obtain ⟨z, hd, xs, rel, dd⟩ := dt_rd I.hok e
    refine wpAny_notIn_heap (tupleKind_room_in1 hu) (key_of I.hok eb) hd dd ?_
    have q := (rel.val k).isSome_eq
    rw [Option.isSome_map] at q
    rw [← q, ← l]
    exact h _ (I.tok _)
/-- a dict's object is replaced -/
theorem d_write {h' : Heap} {t' : Nat} {ob : HO} (I : Inv X pins σ H s) (mu : Mut (H a)) (hs : Heap.SameBut a s.heap h') (he : ∃ q, h'.get? a = some q) (new : ObjOk X.prog X.w (upd H a ob) h' a ob) :
    Inv X pins σ (upd H a ob) { s with heap := h', toks := t' } :=
  I.write (x := a) (e := a) mu (.inl rfl) (fun b q hb z => (hs.2 b hb).trans z) he new
theorem dk_new {P : Program} {w : World} {H' : Hp} {h' : Heap} {kvs : List (Key × V)} {vs : List (Key × Value)} (z : kvs.length ≤ sizeLine) (hd : (a == sysModules) = false) (rel : KV kvs vs) (dd : h'.DictOf (mixKind P w) a vs) :
    ObjOk P w H' h' a (.dK kvs) := ⟨z, hd, vs, rel, dd⟩
/-- d[y] = v -/
theorem d_setItem {H' : Hp} {Q : Unit → Shared → Prop} (hu : A.units + 1 < cLine) (I : Inv X pins σ H s) (g : DPut H a y v H') (ry : RelV y u) (rv : RelV v r) (h : ∀ s', Inv X pins σ H' s' → Q () s') :
    wpAny (model X.prog X.w) A (setItem (.ref a) u r) Q E s := by
  rcases g with ⟨kvs, k, e, ey, l, eH⟩ | ⟨kvs, k, b, e, ey, eb, l, eH⟩
  · subst ey eH
    obtain ⟨z, hd, vs, rel, dd⟩ := dk_of I.hok e
    have hz : vs.length ≤ sizeLine := by rw [← rel.length]; exact z
    have hl : (putK kvs k v).length ≤ sizeLine := by have := length_putK kvs k v; omega
    refine wpAny_setItem_pairs (hsz := hz) (kV_is ry) dd fun h' dd' hs => h _ ?_
    have he : ∃ q, h'.get? a = some q := let ⟨q, _, _, hq, _⟩ := dd'; ⟨q, hq⟩
    exact d_write I (by rw [e]; exact True.intro) hs he (dk_new hl hd (rel.put k rv) dd')
  · subst ey eH
    cases (show u = Value.ref b from ry)
    obtain ⟨z, hd, xs, rel, dd⟩ := dt_of I.hok e
    have hz : xs.length ≤ sizeLine := by rw [← Paired.length rel]; exact z
    have hl : (putK kvs k v).length ≤ sizeLine := by have := length_putK kvs k v; omega
    refine wpAny_setItem_heap (hsz := hz) (tupleKind_room_in1 hu) (key_of I.hok eb) dd fun h' dd' hs => h _ ?_
    obtain ⟨q, es, ep, hq, h2, h3, h4, _, h5⟩ := dd'
    refine d_write I (by rw [e]; exact True.intro) hs ⟨q, hq⟩ ⟨hl, hd, _, (rel.put k eb rv).keeps fun c ys ec => ?_, q, es, ep, hq, h2, h3, h4, h5⟩
    rw [upd_ne (ne_of ec e (fun z => nomatch z))]
    exact ec
end

section
variable {X : Cx} {pins : List (Addr × Obj)} {σ : St} {H : Hp} {s : Shared} {a : Addr} {kvs : List (Key × V)} {k : Key} {u : Value} {A : Around} {E : Value → Shared → Prop}
/-- del d[k] -/
theorem d_delItem {Q : Unit → Shared → Prop} (I : Inv X pins σ H s) (e : H a = some (.dK kvs)) (ry : RelV (kV k) u) (l : (valV kvs k).isSome = true) (h : ∀ s', Inv X pins σ (upd H a (.dK (dropK kvs k))) s' → Q () s') :
    wpAny (model X.prog X.w) A (delItem (.ref a) u) Q E s := by
  obtain ⟨z, hd, vs, rel, dd⟩ := dk_of I.hok e
  refine wpAny_delItem_slot dd.typeIs (by decide) PySem.F.slot_dict_delitem
    (call_meetsIn PySem.F.slot_dict_delitem dd.typeIs PySem.F.entry_dict_delitem (PySem.F.args_dict_delitem_2 _ _) (meets_dict_delitem_pairs (mixKind X.prog X.w) a (kV_is ry)) ⟨vs, dd, by rw [← rel.length]; exact z, by rw [← (rel.val k).isSome_eq]; exact l, fun h' dd' hs => h _ ?_⟩)
  have he : ∃ q, h'.get? a = some q := let ⟨q, _, _, hq, _⟩ := dd'; ⟨q, hq⟩
  exact d_write I (by rw [e]; exact True.intro) hs he (dk_new (Nat.le_trans (dropK_le kvs k) z) hd (rel.drop k) dd')
/-- d.pop(k[, x]), there -/
theorem d_pop {v : V} {more : List Value} {Q : Value → Shared → Prop} (I : Inv X pins σ H s) (e : H a = some (.dK kvs)) (ry : RelV (kV k) u) (l : valV kvs k = some v) (hm : more = [] ∨ ∃ x, more = [x])
    (h : ∀ w' s', Inv X pins σ (upd H a (.dK (dropK kvs k))) s' → RelV v w' → Q w' s') : wpAny (model X.prog X.w) A (call (.builtin "dict.pop") (.ref a :: u :: more)) Q E s := by
  obtain ⟨z, hd, vs, rel, dd⟩ := dk_of I.hok e
  obtain ⟨w', hw, rw'⟩ := RelO.some_of (v := v) (o := valueAt vs k) (by rw [← l]; exact rel.val k)
  have hp : (keyPart u).isSome = true := by
    cases k with
    | inl i => obtain ⟨t, q⟩ := (show ∃ t, u = Value.int i t from ry); subst q; rfl
    | inr x => obtain ⟨t, q⟩ := (show ∃ t, u = Value.str x t from ry); subst q; rfl
  have ha : argsOk "dict.pop" ⟨.ref a :: u :: more, []⟩ := by
    rcases hm with q | ⟨x, q⟩
    · subst q; exact PySem.F.args_dict_pop_2 _ _
    · subst q; exact PySem.F.args_dict_pop_3 _ _ _
  refine call_meetsIn PySem.F.slot_dict_pop dd.typeIs PySem.F.entry_dict_pop ha (meets_dict_pop_there (mixKind X.prog X.w) a (kV_is ry) more hm hp)
    ⟨vs, w', dd, by rw [← rel.length]; exact z, hw, fun h' dd' hs => h w' _ ?_ rw'⟩
  have he : ∃ q, h'.get? a = some q := let ⟨q, _, _, hq, _⟩ := dd'; ⟨q, hq⟩
  exact d_write I (by rw [e]; exact True.intro) hs he (dk_new (Nat.le_trans (dropK_le kvs k) z) hd (rel.drop k) dd')
/-- d.pop(k, x), not there -/
theorem d_popD {r : Value} {Q : Value → Shared → Prop} (I : Inv X pins σ H s) (e : H a = some (.dK kvs)) (ry : RelV (kV k) u) (l : valV kvs k = none) (h : ∀ s', Inv X pins σ H s' → Q r s') :
    wpAny (model X.prog X.w) A (call (.builtin "dict.pop") [.ref a, u, r]) Q E s := by
  obtain ⟨z, hd, vs, rel, dd⟩ := dk_of I.hok e
  have hn : valueAt vs k = none := RelO.none_of (by rw [← l]; exact rel.val k)
  have hp : (keyPart u).isSome = true := by
    cases k with
    | inl i => obtain ⟨t, q⟩ := (show ∃ t, u = Value.int i t from ry); subst q; rfl
    | inr x => obtain ⟨t, q⟩ := (show ∃ t, u = Value.str x t from ry); subst q; rfl
  exact call_meetsIn PySem.F.slot_dict_pop dd.typeIs PySem.F.entry_dict_pop (PySem.F.args_dict_pop_3 _ _ _) (meets_dict_pop_default (mixKind X.prog X.w) a (kV_is ry) hd hp r) ⟨vs, dd, hn, h _ (I.tok _)⟩
/-- d.clear() -/
theorem d_clear {Q : Value → Shared → Prop} (I : Inv X pins σ H s) (e : H a = some (.dK kvs)) (h : ∀ s', Inv X pins σ (upd H a (.dK [])) s' → Q .none s') : wpAny (model X.prog X.w) A (call (.builtin "dict.clear") [.ref a]) Q E s := by
  obtain ⟨z, hd, vs, rel, dd⟩ := dk_of I.hok e
  refine call_meetsIn PySem.F.slot_dict_clear dd.typeIs PySem.F.entry_dict_clear (PySem.F.args_dict_clear_1 _) (meets_dict_clear (mixKind X.prog X.w) a) ⟨vs, dd, by rw [← rel.length]; exact z, fun h' dd' hs => h _ ?_⟩
  have he : ∃ q, h'.get? a = some q := let ⟨q, _, _, hq, _⟩ := dd'; ⟨q, hq⟩
  exact d_write (t' := s.toks) I (by rw [e]; exact True.intro) hs he (dk_new (Nat.zero_le _) hd .nil dd')
/-- len(d) -/
theorem d_len {Q : Value → Shared → Prop} (I : Inv X pins σ H s) (e : Rd H a (.dK kvs)) (h : ∀ t s', Inv X pins σ H s' → Q (.int kvs.length t) s') : wpAny (model X.prog X.w) A (call (.builtin "len") [.ref a]) Q E s := by
  obtain ⟨z, hd, vs, rel, dd⟩ := dk_rd I.hok e
  refine call_len_dict hd dd (by rw [← rel.length]; rw [sizeLine_eq] at z; omega) ?_
  rw [← rel.length]
  exact h _ _ (I.tok _)
/-- if d -/
theorem d_truth {Q : Bool → Shared → Prop} (I : Inv X pins σ H s) (e : Rd H a (.dK kvs)) (h : ∀ s', Inv X pins σ H s' → Q (!kvs.isEmpty) s') : wpAny (model X.prog X.w) A (truthy (.ref a)) Q E s := by
  obtain ⟨z, hd, vs, rel, dd⟩ := dk_rd I.hok e
  refine wpAny_truthy_dict hd dd (by rw [← rel.length]; rw [sizeLine_eq] at z; omega) ?_
  have q : kvs.isEmpty = vs.isEmpty := by cases rel <;> rfl
  rw [← q]
  exact h _ (I.tok _)
end


/-! ### readings and rules -/
/-- the element of a subscription, not a slice -/
def NoSl (i : Expr) : Prop := ∀ ov iv, subscripted i false ov iv = operate [ov, iv] (getItem ov iv)
theorem subD_of {prog : Program} {w : World} {A : Around} {E : Value → Shared → Prop} {s : Shared} {env : Env} {value slice : Expr} {pos : Pos} {T id : String} {Q : Value → Shared → Prop}
    (hl : typeLookup (.type T) "__getitem__" = pure (some (.builtin id))) (hs : NoSl slice)
    (h : wpAny (model prog w) A (eval value env) (fun o s₁ => wpAny (model prog w) A (eval slice env) (fun i s₂ => s₂.TypeIs o T ∧ wpAny (model prog w) A (getItem o i) Q E s₂) E s₁) E s) :
    wpAny (model prog w) A (eval (.Subscript value slice pos) env) Q E s := by
  refine Subscript_ (wpAny_mono h (fun o s₁ h₁ => wpAny_mono h₁ (fun i s₂ h₂ => ?_) fun _ _ x => x) fun _ _ x => x)
  obtain ⟨hT, h₂⟩ := h₂
  unfold subscriptTail
  refine wpAny_bind ?_
  rw [getitemInPython_of_ne hT.not_modules]
  refine wpAny_bind (wpAny_specialOf hT hl ?_)
  have fin : wpAny (model prog w) A (subscripted slice false o i) (fun r s₃ => wpAny (model prog w) A (letTemporaryGo value o r >>= fun _ => pure r) Q E s₃) E s₂ := by
    rw [hs o i]
    exact wpAny_operating (wpAny_mono h₂ (fun r s₃ h₃ => wpAny_bind (wpAny_letTemporaryGo (wpAny_pure h₃))) fun _ _ x => x)
  first
    | exact wpAny_pure (wpAny_bind fin)
    | exact wpAny_bind (wpAny_pure (wpAny_bind fin))
    | exact wpAny_bind fin

theorem dict_typeIs {X : Cx} {pins : List (Addr × Obj)} {σ : St} {H : Hp} {s : Shared} {a : Addr} {y : V} {o : Option V} (I : Inv X pins σ H s) (g : DGet H a y o) : s.TypeIs (.ref a) "dict" := by
  rcases g with ⟨kvs, k, e, _, _⟩ | ⟨kvs, k, b, e, _, _, _⟩
  · obtain ⟨_, _, vs, _, dd⟩ := dk_rd I.hok e
    exact dd.typeIs
  · obtain ⟨_, _, xs, _, dd⟩ := dt_rd I.hok e
    exact dd.typeIs
theorem dict_noDict {X : Cx} {pins : List (Addr × Obj)} {σ : St} {H : Hp} {s : Shared} {a : Addr} {y : V} {o : Option V} (I : Inv X pins σ H s) (g : DGet H a y o) :
    ∀ b, Value.ref a = .ref b → ∃ ob, s.heap.get? b = some ob ∧ ob.dict = none := fun b q => by
  cases q
  rcases g with ⟨kvs, k, e, _, _⟩ | ⟨kvs, k, b, e, _, _, _⟩
  · obtain ⟨_, _, vs, _, ob, _, _, h1, h2, _⟩ := dk_rd I.hok e
    exact ⟨ob, h1, h2.2.1⟩
  · obtain ⟨_, _, xs, _, ob, _, _, h1, h2, _⟩ := dt_rd I.hok e
    exact ⟨ob, h1, h2.2.1⟩

/-- d[y] -/
def tDGet (td ty : TE) : TE := fun σ H Q => td σ H fun x H1 => ty σ H1 fun y H2 => ∃ a v, x = .ref a ∧ DGet H2 a y (some v) ∧ Q v H2
/-- y in d, y not in d -/
def tDIn (ty td : TE) : TE := fun σ H Q => ty σ H fun y H1 => td σ H1 fun x H2 => ∃ a o, x = .ref a ∧ DGet H2 a y o ∧ Q (.bl o.isSome) H2
def tDNotIn (ty td : TE) : TE := fun σ H Q => ty σ H fun y H1 => td σ H1 fun x H2 => ∃ a o, x = .ref a ∧ DGet H2 a y o ∧ Q (.bl (!o.isSome)) H2
/-- d[y] = v -/
def sDPut (td ty tv : TE) : TS := fun D σ H => tv σ H fun v H1 => td σ H1 fun x H2 => ty σ H2 fun y H3 => ∃ a H4, x = .ref a ∧ DPut H3 a y v H4 ∧ D.nx σ H4
/-- d[y] op= v -/
def sDAug (td ty tv : TE) (rd : V → V → Hp → VK → Prop) : TS := fun D σ H => td σ H fun x H1 => ty σ H1 fun y H2 => ∃ a v, x = .ref a ∧ DGet H2 a y (some v) ∧
  tv σ H2 fun y2 H3 => rd v y2 H3 fun z H4 => ∃ H5, DPut H4 a y z H5 ∧ D.nx σ H5
/-- del d[y] -/
def sDDel (td ty : TE) : TS := fun D σ H => td σ H fun x H1 => ty σ H1 fun y H2 => ∃ a kvs k, x = .ref a ∧ H2 a = some (.dK kvs) ∧ y = kV k ∧ (valV kvs k).isSome = true ∧ D.nx σ (upd H2 a (.dK (dropK kvs k)))

section
variable {X : Cx} {o i e value : Expr} {pos pos' tpos : Pos} {td ty tv : TE}
theorem pe_dget (hu : X.A.units + 1 < cLine) (ho : PE X o td) (hi : PE X i ty) (hs : NoSl i) : PE X (.Subscript o i pos) (tDGet td ty) := by
  intro pins s σ H Q I h
  refine subD_of PySem.F.slot_dict_getitem.lookup hs (thn (ho pins s σ H _ I h) fun u s1 ⟨x, H1, I1, rx, q1⟩ => thn (hi pins s1 σ H1 _ I1 q1) fun iv s2 ⟨y, H2, I2, ry, a, v, ex, g, q2⟩ => ?_)
  subst ex
  obtain rfl : u = Value.ref a := rx
  exact ⟨dict_typeIs I2 g, d_getItem hu I2 g ry fun w' s3 I3 rw' => ⟨v, H2, I3, rw', q2⟩⟩
theorem pc_din (hu : X.A.units + 1 < cLine) (hi : PE X i ty) (ho : PE X o td) : PC X .In i o (tDIn ty td) := by
  intro pins s σ H Q I h
  refine thn (hi pins s σ H _ I h) fun iv s1 ⟨y, H1, I1, ry, q1⟩ => thn (ho pins s1 σ H1 _ I1 q1) fun u s2 ⟨x, H2, I2, rx, a, ov, ex, g, q2⟩ => ?_
  subst ex
  obtain rfl : u = Value.ref a := rx
  exact d_in hu I2 g ry fun s3 I3 => ⟨.bl ov.isSome, H2, I3, rfl, q2⟩
theorem pc_dnotin (hu : X.A.units + 1 < cLine) (hi : PE X i ty) (ho : PE X o td) : PC X .NotIn i o (tDNotIn ty td) := by
  intro pins s σ H Q I h
  refine thn (hi pins s σ H _ I h) fun iv s1 ⟨y, H1, I1, ry, q1⟩ => thn (ho pins s1 σ H1 _ I1 q1) fun u s2 ⟨x, H2, I2, rx, a, ov, ex, g, q2⟩ => ?_
  subst ex
  obtain rfl : u = Value.ref a := rx
  exact d_notIn hu I2 g ry fun s3 I3 => ⟨.bl (!ov.isSome), H2, I3, rfl, q2⟩
theorem ps_dput (hu : X.A.units + 1 < cLine) (ho : PE X o td) (hi : PE X i ty) (hv : PE X value tv) (hs : swapsWith value (some (.Subscript o i pos')) pos.line X.env = pure false) :
    PS X (.Assign [.Subscript o i pos'] value pos) (sDPut td ty tv) := by
  intro pins s σ H D I h
  refine wpAny_Assign_Subscript (thn (hv pins s σ H _ I h) fun r s1 ⟨v, H1, I1, rv, q1⟩ => thn (ho pins s1 σ H1 _ I1 q1) fun u s2 ⟨x, H2, I2, rx, q2⟩ => thn (hi pins s2 σ H2 _ I2 q2) fun iv s3 ⟨y, H3, I3, ry, a, H4, ex, g, q3⟩ => ?_) hs
  subst ex
  obtain rfl : u = Value.ref a := rx
  exact d_setItem hu I3 g ry rv fun s4 I4 => ⟨σ, H4, I4, q3⟩
theorem ps_daug {op : Operator} {rd : V → V → Hp → VK → Prop} (hu : X.A.units + 1 < cLine) (ho : PE X o td) (hi : PE X i ty) (hv : PE X value tv) (hop : InOp X op rd)
    (ha : ∀ ov iv new, augStore i ov iv new = (do holding [new, ov, iv] (setItem ov iv new); release [new, ov, iv] []; pure .next)) : PS X (.AugAssign (.Subscript o i tpos) op value pos) (sDAug td ty tv rd) := by
  intro pins s σ H D I h
  refine wpAny_AugAssign_SubscriptAny (thn (ho pins s σ H _ I h) fun u s1 ⟨x, H1, I1, rx, q1⟩ => thn (hi pins s1 σ H1 _ I1 q1) fun iv s2 ⟨y, H2, I2, ry, a, v, ex, g, q2⟩ => ?_) ha
  subst ex
  obtain rfl : u = Value.ref a := rx
  refine d_getItem hu I2 g ry fun w' s3 I3 rw' => thn (hv pins s3 σ H2 _ I3 q2) fun w2 s4 ⟨y2, H3, I4, ry2, q3⟩ => thn (hop pins s4 σ H3 v y2 w' w2 _ I4 rw' ry2 q3) fun w3 s5 ⟨z, H4, I5, rz, H5, g5, q4⟩ => ?_
  exact d_setItem hu I5 g5 ry rz fun s6 I6 => ⟨σ, H5, I6, q4⟩
theorem ps_ddel (ho : PE X o td) (hi : PE X i ty) : PS X (.Delete [.Subscript o i tpos] pos) (sDDel td ty) := by
  intro pins s σ H D I h
  refine wpAny_Delete (wpAny_deleteEach_cons (wpAny_delete_Subscript (thn (ho pins s σ H _ I h) fun u s1 ⟨x, H1, I1, rx, q1⟩ => thn (hi pins s1 σ H1 _ I1 q1) fun iv s2 ⟨y, H2, I2, ry, a, kvs, k, ex, e, ey, l, q2⟩ => ?_)))
  subst ex ey
  obtain rfl : u = Value.ref a := rx
  exact d_delItem I2 e ry l fun s3 I3 => wpAny_deleteEach_nil ⟨σ, _, I3, q2⟩
end


/-! ### displays -/
theorem dk_empty {P : Program} {w : World} {H : Hp} (h : Heap) (hb : sysModules < h.objs.size) : ObjOk P w H (h.push { cls := .type "dict", data := .dict #[] }) h.objs.size (.dK []) :=
  ⟨Nat.zero_le _, beq_eq_false_iff_ne.mpr (Ne.symm (Nat.ne_of_lt hb)), [], .nil, Heap.DictOf.new h⟩
theorem dt_empty {P : Program} {w : World} {H : Hp} (h : Heap) (hb : sysModules < h.objs.size) : ObjOk P w H (h.push { cls := .type "dict", data := .dict #[] }) h.objs.size (.dT []) :=
  ⟨Nat.zero_le _, beq_eq_false_iff_ne.mpr (Ne.symm (Nat.ne_of_lt hb)), [], .nil, _, #[], 0, Heap.get?_push_size _ rfl, ⟨rfl, rfl, rfl⟩, rfl, rfl, List.nodup_nil⟩
/-- {}, to be a dict of the kind that is wanted -/
def tDNewK : TE := fun _ H Q => ∀ p, H p = none → Q (.ref p) (upd H p (.dK []))
def tDNewT : TE := fun _ H Q => ∀ p, H p = none → Q (.ref p) (upd H p (.dT []))
section
variable {X : Cx} {pos : Pos}
theorem pe_dnewK : PE X (.Dict [] [] pos) tDNewK := fun pins s σ H Q I h =>
  wpAny_Dict_empty ⟨.ref s.heap.objs.size, _, I.laid (a := s.heap.objs.size) (o := .dK []) (t' := s.toks) (fun _ _ q => Heap.get?_push_of_some _ q) (Nat.le_refl _) (dk_empty s.heap I.big), rfl, h _ (I.hok.fresh (Nat.le_refl _))⟩
theorem pe_dnewT : PE X (.Dict [] [] pos) tDNewT := fun pins s σ H Q I h =>
  wpAny_Dict_empty ⟨.ref s.heap.objs.size, _, I.laid (a := s.heap.objs.size) (o := .dT []) (t' := s.toks) (fun _ _ q => Heap.get?_push_of_some _ q) (Nat.le_refl _) (dt_empty s.heap I.big), rfl, h _ (I.hok.fresh (Nat.le_refl _))⟩
end

/-- the pairs of a display, from the left -/
def tPairs : List (TE × TE) → St → Hp → (List (V × V) → Hp → Prop) → Prop
  | [], _, H, Q => Q [] H
  | (tk, tv) :: r, σ, H, Q => tk σ H fun x H1 => tv σ H1 fun y H2 => tPairs r σ H2 fun ps H3 => Q ((x, y) :: ps) H3
abbrev VV : List (V × V) → List (Value × Value) → Prop := Paired fun p q => RelV p.1 q.1 ∧ RelV p.2 q.2
def PPs (X : Cx) (pos : Pos) (keys : List (Option Expr)) (values : List Expr) (trs : List (TE × TE)) : Prop :=
  ∀ (pins : List (Addr × Obj)) (s : Shared) (σ : St) (H : Hp) (Q : List (V × V) → Hp → Prop), Inv X pins σ H s → tPairs trs σ H Q →
    wpAny (model X.prog X.w) X.A (evalPairs (pairTrees keys values X.env pos)) (fun vs s' => ∃ ps H', Inv X pins σ H' s' ∧ VV ps vs ∧ Q ps H') X.xe s
theorem pps_nil {X : Cx} {pos : Pos} : PPs X pos [] [] [] := fun pins s σ H Q I h => pairTrees_nil_walk ⟨[], H, I, .nil, h⟩
theorem pps_cons {X : Cx} {pos : Pos} {k v : Expr} {ks : List (Option Expr)} {vs : List Expr} {tk tv : TE} {trs : List (TE × TE)} (hk : PE X k tk) (hv : PE X v tv) (hr : PPs X pos ks vs trs) :
    PPs X pos (some k :: ks) (v :: vs) ((tk, tv) :: trs) := fun pins s σ H Q I h =>
  pairTrees_cons_walk (thn (hk pins s σ H _ I h) fun u s1 ⟨x, H1, I1, rx, q1⟩ => thn (hv pins s1 σ H1 _ I1 q1) fun w2 s2 ⟨y, H2, I2, ry, q2⟩ =>
    thn (hr pins s2 σ H2 _ I2 q2) fun ws s3 ⟨ps, H3, I3, rel, q3⟩ => ⟨(x, y) :: ps, H3, I3, .cons ⟨rx, ry⟩ rel, q3⟩)

def mergeK (kvs more : List (Key × V)) : List (Key × V) := more.foldl (fun acc kv => putK acc kv.1 kv.2) kvs
theorem KV.merge : ∀ {more : List (Key × V)} {rs : List (Key × Value)} {kvs : List (Key × V)} {vs : List (Key × Value)}, KV more rs → KV kvs vs → KV (mergeK kvs more) (merged vs rs) := by
  intro more rs kvs vs r
  unfold KV at r
  induction r generalizing kvs vs with
  | nil => intro q; exact q
  | @cons p q ps qs h t ih =>
    intro r0
    have e : KV (putK kvs p.1 p.2) (stored vs q.1 q.2) := by
      have := r0.put p.1 h.2
      rw [← h.1]; exact this
    exact ih e
theorem length_mergeK : ∀ (more kvs : List (Key × V)), (mergeK kvs more).length ≤ kvs.length + more.length
  | [], kvs => by show kvs.length ≤ kvs.length + 0; omega
  | p :: r, kvs => by
    have h1 := length_mergeK r (putK kvs p.1 p.2)
    have h2 := length_putK kvs p.1 p.2
    show (mergeK (putK kvs p.1 p.2) r).length ≤ _
    rw [List.length_cons]; omega
theorem carries_of {P : Program} {w : World} : ∀ {kvs : List (Key × V)} {ws : List (Value × Value)}, VV (kvs.map fun kv => (kV kv.1, kv.2)) ws → ∃ rs, Carries (mixKind P w) ws rs ∧ KV kvs rs
  | [], _, r => by rw [List.map_nil] at r; cases r; exact ⟨[], True.intro, .nil⟩
  | p :: kvs, _, r => by
    rw [List.map_cons] at r
    cases r with
    | @cons a b as bs h t =>
      obtain ⟨rs, c, q⟩ := carries_of (P := P) (w := w) t
      obtain ⟨b1, b2⟩ := b
      exact ⟨(p.1, b2) :: rs, ⟨kV_is h.1, rfl, c⟩, .cons ⟨rfl, h.2⟩ q⟩
/-- {k: v, ..} with keys ints and texts; the new dict stands empty while the pairs are made -/
def tDisp (trs : List (TE × TE)) : TE := fun σ H Q => ∀ p, H p = none → tPairs trs σ (upd H p (.dK [])) fun ps H2 => H2 p = some (.dK []) ∧ ∃ kvs : List (Key × V), ps = kvs.map (fun kv => (kV kv.1, kv.2)) ∧ kvs.length ≤ 15 ∧ Q (.ref p) (upd H2 p (.dK (mergeK [] kvs)))
theorem pe_disp {X : Cx} {pos : Pos} {keys : List (Option Expr)} {values : List Expr} {trs : List (TE × TE)} (h : PPs X pos keys values trs) (hall : keys.all (·.isSome) = true) (hl : keys.length = values.length) (h0 : keys ≠ [])
    (h15 : keys.length ≤ 15) : PE X (.Dict keys values pos) (tDisp trs) := by
  intro pins s σ H Q I q
  have hn := I.hok.fresh (Nat.le_refl s.heap.objs.size)
  have I1 := I.laid (a := s.heap.objs.size) (o := .dK []) (h' := s.heap.push { cls := .type "dict", data := .dict #[] }) (t' := s.toks) (fun _ _ q => Heap.get?_push_of_some _ q) (Nat.le_refl _) (dk_empty s.heap I.big)
  refine wpAny_Dict_walk (knd := mixKind X.prog X.w) hall hl h0 h15 (thn (h pins _ σ _ _ I1 (q _ hn)) fun ws s2 ⟨ps, H2, I2, rel, e, kvs, ep, lk, q2⟩ => ?_)
  subst ep
  obtain ⟨rs, c, rk⟩ := carries_of (P := X.prog) (w := X.w) rel
  obtain ⟨z, hd, vs0, r0, dd⟩ := dk_of I2.hok e
  cases r0
  refine ⟨rs, c, dd, fun h' dd' hs => ⟨.ref s.heap.objs.size, _, ?_, rfl, q2⟩⟩
  have hz : (mergeK [] kvs).length ≤ sizeLine := by
    have h1 := length_mergeK kvs []
    rw [List.length_nil] at h1
    rw [sizeLine_eq]; omega
  have he : ∃ q, h'.get? s.heap.objs.size = some q := let ⟨q, _, _, hq, _⟩ := dd'; ⟨q, hq⟩
  exact d_write I2 (by rw [e]; exact True.intro) hs he (dk_new hz hd (rk.merge .nil) dd')


/-! ### methods -/
/-- a method call o.m(e) of a built-in, with one argument: what must be seen of the text -/
structure M1 (X : Cx) (o : Expr) (m : Str) (apos : Pos) (e : Expr) (cpos : Pos) : Prop where
  base : attributeBase o m X.env (eval o X.env) = eval o X.env
  few : ((backTo cpos (starEach [e] X.env)).all (fun x => !x.1) && (backToKw cpos (keywordEach [] X.env)).all (fun x => x.1.isSome)
    && decide (([e] : List Expr).length + ([] : List Keyword).length + (if ([] : List Keyword).isEmpty then 0 else 1) < 30)) = true
  line : (apos.endLine == cpos.line) = true
  trees : backTo cpos (starEach [e] X.env) = [(false, eval e X.env)]
structure M2 (X : Cx) (o : Expr) (m : Str) (apos : Pos) (e f : Expr) (cpos : Pos) : Prop where
  base : attributeBase o m X.env (eval o X.env) = eval o X.env
  few : ((backTo cpos (starEach [e, f] X.env)).all (fun x => !x.1) && (backToKw cpos (keywordEach [] X.env)).all (fun x => x.1.isSome)
    && decide (([e, f] : List Expr).length + ([] : List Keyword).length + (if ([] : List Keyword).isEmpty then 0 else 1) < 30)) = true
  line : (apos.endLine == cpos.line) = true
  trees : backTo cpos (starEach [e, f] X.env) = [(false, eval e X.env), (false, eval f X.env)]

/-- a is a dict, whatever its keys -/
def IsD (H : Hp) (a : Addr) : Prop := (∃ kvs, Rd H a (.dK kvs)) ∨ ∃ kvs, Rd H a (.dT kvs)
theorem isD_at {X : Cx} {pins : List (Addr × Obj)} {σ : St} {H : Hp} {s : Shared} {a : Addr} (I : Inv X pins σ H s) (d : IsD H a) :
    s.TypeIs (.ref a) "dict" ∧ (∀ b, Value.ref a = .ref b → ∃ ob, s.heap.get? b = some ob ∧ ob.dict = none) ∧ (a == sysModules) = false := by
  rcases d with ⟨kvs, e⟩ | ⟨kvs, e⟩
  · obtain ⟨_, hd, vs, _, dd⟩ := dk_rd I.hok e
    refine ⟨dd.typeIs, fun b q => ?_, hd⟩
    cases q
    obtain ⟨ob, _, _, h1, h2, _⟩ := dd
    exact ⟨ob, h1, h2.2.1⟩
  · obtain ⟨_, hd, xs, _, dd⟩ := dt_rd I.hok e
    refine ⟨dd.typeIs, fun b q => ?_, hd⟩
    cases q
    obtain ⟨ob, _, _, h1, h2, _⟩ := dd
    exact ⟨ob, h1, h2.2.1⟩

section
variable {X : Cx} {pins : List (Addr × Obj)} {σ : St} {H : Hp} {s : Shared} {a : Addr} {y d : V} {u r : Value} {o : Option V} {A : Around} {E : Value → Shared → Prop}
/-- d.get(y) -/
theorem d_get1 {Q : Value → Shared → Prop} (hu : A.units + 1 < cLine) (I : Inv X pins σ H s) (g : DGet H a y o) (ry : RelV y u) (h : ∀ w' s', Inv X pins σ H s' → RelV (o.getD .non) w' → Q w' s') :
    wpAny (model X.prog X.w) A (call (.builtin "dict.get") [.ref a, u]) Q E s := by
  rcases g with ⟨kvs, k, e, ey, l⟩ | ⟨kvs, k, b, e, ey, eb, l⟩
  · subst ey
    obtain ⟨z, hd, vs, rel, dd⟩ := dk_rd I.hok e
    refine call_meetsIn PySem.F.slot_dict_get dd.typeIs PySem.F.entry_dict_get (PySem.F.args_dict_get_2 _ _) (meets_dict_get (mixKind X.prog X.w) a (kV_is ry) hd) ⟨_, dd.mapOf, h _ _ (I.tok _) ?_⟩
    rw [l]
    exact (rel.val k).getD rfl
  · subst ey
    cases (show u = Value.ref b from ry)
    obtain ⟨z, hd, xs, rel, dd⟩ := dt_rd I.hok e
    refine call_meetsIn PySem.F.slot_dict_get dd.typeIs PySem.F.entry_dict_get (PySem.F.args_dict_get_2 _ _) (meetsH_dict_get (tupleKind (mixKind X.prog X.w)) a b hd) ⟨tupleKind_room_in1 hu, k, xs, key_of I.hok eb, dd, h _ _ (I.tok _) ?_⟩
    rw [l]
    exact (rel.val k).getD rfl
/-- d.get(y, x) -/
theorem d_get2 {Q : Value → Shared → Prop} (hu : A.units + 1 < cLine) (I : Inv X pins σ H s) (g : DGet H a y o) (ry : RelV y u) (rd : RelV d r) (h : ∀ w' s', Inv X pins σ H s' → RelV (o.getD d) w' → Q w' s') :
    wpAny (model X.prog X.w) A (call (.builtin "dict.get") [.ref a, u, r]) Q E s := by
  rcases g with ⟨kvs, k, e, ey, l⟩ | ⟨kvs, k, b, e, ey, eb, l⟩
  · subst ey
    obtain ⟨z, hd, vs, rel, dd⟩ := dk_rd I.hok e
    refine call_meetsIn PySem.F.slot_dict_get dd.typeIs PySem.F.entry_dict_get (PySem.F.args_dict_get_3 _ _ _) (meets_dict_get_default (mixKind X.prog X.w) a (kV_is ry) hd r) ⟨_, dd.mapOf, h _ _ (I.tok _) ?_⟩
    rw [l]
    exact (rel.val k).getD rd
  · subst ey
    cases (show u = Value.ref b from ry)
    obtain ⟨z, hd, xs, rel, dd⟩ := dt_rd I.hok e
    refine call_meetsIn PySem.F.slot_dict_get dd.typeIs PySem.F.entry_dict_get (PySem.F.args_dict_get_3 _ _ _) (meetsH_dict_get_default (tupleKind (mixKind X.prog X.w)) a b hd r) ⟨tupleKind_room_in1 hu, k, xs, key_of I.hok eb, dd, h _ _ (I.tok _) ?_⟩
    rw [l]
    exact (rel.val k).getD rd
end

def tDGet1 (td ty : TE) : TE := fun σ H Q => td σ H fun x H1 => ∃ a, x = .ref a ∧ IsD H1 a ∧ ty σ H1 fun y H2 => ∃ o, DGet H2 a y o ∧ Q (o.getD .non) H2
def tDGet2 (td ty tx : TE) : TE := fun σ H Q => td σ H fun x H1 => ∃ a, x = .ref a ∧ IsD H1 a ∧ ty σ H1 fun y H2 => tx σ H2 fun z H3 => ∃ o, DGet H3 a y o ∧ Q (o.getD z) H3
/-- d.pop(k): there; d.pop(k, x): there or not -/
def tDPop1 (td ty : TE) : TE := fun σ H Q => td σ H fun x H1 => ∃ a, x = .ref a ∧ IsD H1 a ∧ ty σ H1 fun y H2 => ∃ kvs k v, H2 a = some (.dK kvs) ∧ y = kV k ∧ valV kvs k = some v ∧ Q v (upd H2 a (.dK (dropK kvs k)))
def tDPop2 (td ty tx : TE) : TE := fun σ H Q => td σ H fun x H1 => ∃ a, x = .ref a ∧ IsD H1 a ∧ ty σ H1 fun y H2 => tx σ H2 fun z H3 => ∃ kvs k, H3 a = some (.dK kvs) ∧ y = kV k ∧
  (∀ v, valV kvs k = some v → Q v (upd H3 a (.dK (dropK kvs k)))) ∧ (valV kvs k = none → Q z H3)
section
variable {X : Cx} {o e f : Expr} {apos cpos : Pos} {td ty tx : TE}
theorem pe_dget1 (hu : X.A.units + 1 < cLine) (ho : PE X o td) (he : PE X e ty) (m : M1 X o "get" apos e cpos) : PE X (.Call (.Attribute o "get" apos) [e] [] cpos) (tDGet1 td ty) := by
  intro pins s σ H Q I h
  refine wpAny_Call_method m.base m.few m.line PySem.F.plainAttrs_dict PySem.F.slot_dict_get PySem.F.type_dict_get (thn (ho pins s σ H _ I h) fun u s1 ⟨x, H1, I1, rx, a, ex, d, q1⟩ => ?_)
  subst ex
  obtain rfl : u = Value.ref a := rx
  obtain ⟨t1, t2, _⟩ := isD_at I1 d
  refine ⟨t1, t2, ?_⟩
  rw [m.trees]
  refine Calls.callWith_builtin rfl (Calls.evalArgs_plain (Calls.spliced_cons (thn (he pins s1 σ H1 _ I1 q1) fun iv s2 ⟨y, H2, I2, ry, ov, g, q2⟩ => Calls.spliced_nil ?_)))
  exact d_get1 hu I2 g ry fun w' s3 I3 rw' => ⟨_, H2, I3, rw', q2⟩
theorem pe_dget2 (hu : X.A.units + 1 < cLine) (ho : PE X o td) (he : PE X e ty) (hf : PE X f tx) (m : M2 X o "get" apos e f cpos) : PE X (.Call (.Attribute o "get" apos) [e, f] [] cpos) (tDGet2 td ty tx) := by
  intro pins s σ H Q I h
  refine wpAny_Call_method m.base m.few m.line PySem.F.plainAttrs_dict PySem.F.slot_dict_get PySem.F.type_dict_get (thn (ho pins s σ H _ I h) fun u s1 ⟨x, H1, I1, rx, a, ex, d, q1⟩ => ?_)
  subst ex
  obtain rfl : u = Value.ref a := rx
  obtain ⟨t1, t2, _⟩ := isD_at I1 d
  refine ⟨t1, t2, ?_⟩
  rw [m.trees]
  refine Calls.callWith_builtin rfl (Calls.evalArgs_plain (Calls.spliced_cons (thn (he pins s1 σ H1 _ I1 q1) fun iv s2 ⟨y, H2, I2, ry, q2⟩ =>
    Calls.spliced_cons (thn (hf pins s2 σ H2 _ I2 q2) fun fv s3 ⟨z, H3, I3, rz, ov, g, q3⟩ => Calls.spliced_nil ?_))))
  exact d_get2 hu I3 g ry rz fun w' s4 I4 rw' => ⟨_, H3, I4, rw', q3⟩
theorem pe_dpop1 (ho : PE X o td) (he : PE X e ty) (m : M1 X o "pop" apos e cpos) : PE X (.Call (.Attribute o "pop" apos) [e] [] cpos) (tDPop1 td ty) := by
  intro pins s σ H Q I h
  refine wpAny_Call_method m.base m.few m.line PySem.F.plainAttrs_dict PySem.F.slot_dict_pop PySem.F.type_dict_pop (thn (ho pins s σ H _ I h) fun u s1 ⟨x, H1, I1, rx, a, ex, d, q1⟩ => ?_)
  subst ex
  obtain rfl : u = Value.ref a := rx
  obtain ⟨t1, t2, _⟩ := isD_at I1 d
  refine ⟨t1, t2, ?_⟩
  rw [m.trees]
  refine Calls.callWith_builtin rfl (Calls.evalArgs_plain (Calls.spliced_cons (thn (he pins s1 σ H1 _ I1 q1) fun iv s2 ⟨y, H2, I2, ry, kvs, k, v, ea, ey, l, q2⟩ => Calls.spliced_nil ?_)))
  subst ey
  exact d_pop I2 ea ry l (.inl rfl) fun w' s3 I3 rw' => ⟨v, _, I3, rw', q2⟩
theorem pe_dpop2 (ho : PE X o td) (he : PE X e ty) (hf : PE X f tx) (m : M2 X o "pop" apos e f cpos) : PE X (.Call (.Attribute o "pop" apos) [e, f] [] cpos) (tDPop2 td ty tx) := by
  intro pins s σ H Q I h
  refine wpAny_Call_method m.base m.few m.line PySem.F.plainAttrs_dict PySem.F.slot_dict_pop PySem.F.type_dict_pop (thn (ho pins s σ H _ I h) fun u s1 ⟨x, H1, I1, rx, a, ex, d, q1⟩ => ?_)
  subst ex
  obtain rfl : u = Value.ref a := rx
  obtain ⟨t1, t2, _⟩ := isD_at I1 d
  refine ⟨t1, t2, ?_⟩
  rw [m.trees]
  refine Calls.callWith_builtin rfl (Calls.evalArgs_plain (Calls.spliced_cons (thn (he pins s1 σ H1 _ I1 q1) fun iv s2 ⟨y, H2, I2, ry, q2⟩ =>
    Calls.spliced_cons (thn (hf pins s2 σ H2 _ I2 q2) fun fv s3 ⟨z, H3, I3, rz, kvs, k, ea, ey, q3, q4⟩ => Calls.spliced_nil ?_))))
  subst ey
  cases l : valV kvs k with
  | some v => exact d_pop I3 ea ry l (.inr ⟨fv, rfl⟩) fun w' s4 I4 rw' => ⟨v, _, I4, rw', q3 v l⟩
  | none => exact d_popD I3 ea ry l fun s4 I4 => ⟨z, H3, I4, rz, q4 l⟩
end

/-! ### dict(d): a copy -/
section
variable {X : Cx} {pins : List (Addr × Obj)} {σ : St} {H : Hp} {s : Shared} {a : Addr} {kvs : List (Key × V)} {A : Around} {E : Value → Shared → Prop}
theorem d_copyOf {Q : Value → Shared → Prop} (I : Inv X pins σ H s) (e : Rd H a (.dK kvs)) (h : ∀ p s', H p = none → Inv X pins σ (upd H p (.dK kvs)) s' → Q (.ref p) s') : wpAny (model X.prog X.w) A (call (.type "dict") [.ref a]) Q E s := by
  obtain ⟨z, hd, vs, rel, dd⟩ := dk_rd I.hok e
  refine kt_call_dict hd dd (by rw [← rel.length]; exact z) fun h' dd' hs => ?_
  refine h _ _ (I.hok.fresh (Nat.le_refl _)) (I.laid (a := s.heap.objs.size) (o := .dK kvs) (t' := s.toks) (fun b q hq => ?_) (Nat.le_refl _) (dk_new z (beq_eq_false_iff_ne.mpr (Ne.symm (Nat.ne_of_lt I.big))) rel dd'))
  exact (hs.2 b (Nat.ne_of_lt (Heap.lt_size hq))).trans (Heap.get?_push_of_some _ hq)
end


section
variable {X : Cx} {pins : List (Addr × Obj)} {σ : St} {H : Hp} {s : Shared} {a : Addr} {y : V} {u : Value} {A : Around} {E : Value → Shared → Prop}
/-- d[y], not there: a KeyError -/
theorem d_missing {Q : Value → Shared → Prop} (hu : A.units + 1 < cLine) (hh : A.handled = none) (I : Inv X pins σ H s) (g : DGet H a y none) (ry : RelV y u)
    (h : ∀ h' e t', Heap.NewExc s.heap h' e "KeyError" → E (.ref e) { s with heap := h', toks := t' }) : wpAny (model X.prog X.w) A (getItem (.ref a) u) Q E s := by
  rcases g with ⟨kvs, k, e, ey, l⟩ | ⟨kvs, k, b, e, ey, eb, l⟩
  · subst ey
    obtain ⟨z, hd, vs, rel, dd⟩ := dk_rd I.hok e
    have hn : valueAt vs k = none := RelO.none_of (by rw [l]; exact rel.val k)
    exact wpAny_getItem_missing_of (kV_is ry) hd hh dd.mapOf hn fun h' ex ne => h h' ex _ ne
  · subst ey
    cases (show u = Value.ref b from ry)
    obtain ⟨z, hd, xs, rel, dd⟩ := dt_rd I.hok e
    have hn : (atKey xs k).map (·.2) = none := RelO.none_of (by rw [l]; exact rel.val k)
    exact wpAny_getItem_missing_heap (tupleKind_room_in1 hu) (key_of I.hok eb) hd hh dd (Option.map_eq_none_iff.mp hn) fun h' ex ne => h h' ex _ ne
end
end L2

namespace Att
open PySem PySem.W PySem.Calls PyProof.Rows

/-! ### the script -/
theorem ints_of_wellAll {P : Params} {h : Heap} : ∀ (ns : List Int) (vs : List Value), WellAll P h vs (ns.map WData.int) → IntsAre vs ns := by
  intro ns
  induction ns with
  | nil =>
    intro vs w
    rw [List.map_nil] at w
    cases w
    exact .nil
  | cons n ns ih =>
    intro vs w
    rw [List.map_cons] at w
    cases w with
    | cons a b =>
      cases a
      exact .cons _ _ (ih _ b)

theorem script_of {l : OpenLaw} {n : Nat} (hn : l.most = some n) {P : Params} {h : Heap} {args : List WData} {vals : List Value}
    (hpre : l.row.toRowW.claim.pre args = true) (hwl : WellAll P h vals args) :
    ∃ a vs ns, vals = [Value.ref a] ∧ args = [WData.list (ns.map WData.int)] ∧ h.get? a = some { cls := .type "list", data := .seq vs.toArray } ∧ IntsAre vs ns ∧ ns.length ≤ n := by
  have hsh : WShape.hasAll [] args [.list .int] = true := (pre_splitW hpre).1
  have hc : l.pre.holds [] { args := args } = true := (pre_splitW hpre).2
  obtain ⟨d, r, rfl, h1, h2⟩ := hasAllW_cons hsh
  obtain rfl := hasAllW_nil h2
  obtain ⟨xs, rfl, h3⟩ := hasW_list h1
  obtain ⟨ns, rfl⟩ := items_int h3
  have hlen : ns.length ≤ n := by
    unfold OpenLaw.pre at hc
    have h4 : (WTm.not (.lt (.lit (.int (n : Int))) (.len (.arg 0)))).holds [] { args := [.list (ns.map .int)] } = true := by
      have h4 := (holds_andW hc).1
      rw [hn] at h4
      exact h4
    have h5 := condW_of h4 (w_not (w_lt w_lit (w_len_list (w_arg rfl))))
    rw [List.length_map] at h5
    refine Nat.le_of_not_lt fun q => ?_
    have q' : (n : Int) < ((ns.length : Nat) : Int) := by omega
    first
      | (rw [decide_eq_true q'] at h5; exact absurd h5 (by decide))
      | (simp at h5; omega)
  cases hwl with
  | cons w1 w2 =>
    cases w2
    cases w1 with
    | list ho hall => exact ⟨_, _, ns, rfl, rfl, ho, ints_of_wellAll ns _ hall, hlen⟩

theorem post_true (l : OpenLaw) (args : List WData) : l.row.toRowW.claim.post args (.bool true) args = true :=
  postW_of (r := l.row.toRowW) (X := (true == true))
    (show WShape.has [] (.bool true) .bool = true by first | rfl | decide | simp [WShape.has, WShape.arms, WShape.armsAll])
    (show (WTm.eq .res (.lit (.bool true))).value [] { args := args, res := some (.bool true), after := args } = some (.bool (true == true)) from w_eq_bool (w_res rfl) w_lit) rfl

/-! ### the attachment: holds_open's last premise (the goal 'hc' behind k_head) from a wpAny of the law's body -/
theorem attach {l : OpenLaw} {n : Nat} {q : Program} {loose : List Str} {XP : (Str → Option Value) → Heap → Prop} {YP : World → Heap → Prop} {d : DefRec} {x : Str}
    (hn : l.most = some n) (hdf : d.params.defaults = [])
    (hbind : ∀ pm cd doc v : Value, bindArgs (docDef d.name d.params d.body d.scope pm cd doc) ⟨[v], []⟩ = pure [(x, v)])
    (hx : d.scope.names.lookup x = some .local ∨ d.scope.names.lookup x = some .cell)
    (hk : d.scope.kind = .function) (hco : d.scope.isCoroutine = false) (hgen : d.scope.isGenerator = false)
    (body : ∀ (w : World) (s₀ s₁ s : Shared) (mg mb : Str → Option Value) (fa : Addr) (o : Obj) (pm cd doc : Value) (a : Addr) (vs : List Value) (ns : List Int),
      Ground q loose [] XP w s₀ mg mb s₁.heap → YP w s₁.heap →
      s₁.heap.get? fa = some o → o.data = .func (docDef d.name d.params d.body d.scope pm cd doc) → s₁.heap.CodeRec cd d.name → mg d.name = some (.ref fa) →
      s₁.heap.get? a = some { cls := .type "list", data := .seq vs.toArray } → IntsAre vs ns → ns.length ≤ n →
      s.gens = #[] → s.os = s₁.os →
      Fr s₁.heap s₁.heap.objs.size s.heap (bindL (envOfC d.name d.scope s₁.heap.objs.size fa cd).kindOf [(x, .ref a)] fun _ => none) →
      Cl s₁.heap.objs.size (cellsFrom (s₁.heap.objs.size + 1) d.scope.names []) s.heap (bindC (envOfC d.name d.scope s₁.heap.objs.size fa cd).kindOf [(x, .ref a)] fun _ => none) →
      wpAny (model l.prog w) (callerA.deeper (envOfC d.name d.scope s₁.heap.objs.size fa cd)) (execs d.body (envOfC d.name d.scope s₁.heap.objs.size fa cd))
        (fun f s' => f = .ret (.bool true) ∧ OldK s₁.heap s'.heap ∧ s'.os = s₁.os ∧ AllBare s'.gens) (fun _ _ => False) s) :
    WalkO q loose XP YP l.row.toRowW d [] (fun f vs => PySem.call f vs) := by
  intro w s₀ s₁ mg mb G Y fa o pm cd doc dV kV ho hd hcd hD hmg hg args vals as hpre hlay hrd hwl hlo
  obtain rfl : dV = .none := Dflts.none hD hdf
  obtain rfl : kV = .none := Dflts.noKw hD
  obtain ⟨a, vs, ns, rfl, rfl, hobj, hints, hlen⟩ := script_of hn hpre hwl
  refine enter_call ?_
  refine call_cells_ret (o := o) (by rw [depth_caller]; decide) ho (fd_plain hd) G.T.nolimit hcd (hbind pm cd doc (.ref a)) (fun y hy => ?_) (fun h₁ tk F X => ?_) hco hgen hk
  · obtain rfl : y = (x, Value.ref a) := List.mem_singleton.mp hy
    rcases hx with e | e
    · exact .inl e
    · exact .inr ⟨e, cellsFrom_some _ _ _ (.inl e)⟩
  · refine wpAny_mono (body w s₀ s₁ { s₁ with heap := h₁, toks := tk } mg mb fa o pm cd doc a vs ns G Y ho (fd_plain hd) hcd hmg hobj hints hlen hg rfl F X) (fun f s' hq => ?_) (fun _ _ hq => hq)
    obtain ⟨rfl, h2, h3, h4⟩ := hq
    exact ⟨.inl ⟨.bool true, .bool true, [], rfl, fun _ => rfl, .bool true, post_true l _, fun _ => ⟨List.Pairwise.nil, fun _ hm => (nomatch hm)⟩⟩, h2, h3, h4⟩

/-- the same from a codeAny of the CALL (for a layer whose function contracts speak of calls) -/
theorem attach_call {l : OpenLaw} {n : Nat} {q : Program} {loose : List Str} {XP : (Str → Option Value) → Heap → Prop} {YP : World → Heap → Prop} {d : DefRec}
    (hn : l.most = some n) (hdf : d.params.defaults = [])
    (call : ∀ (w : World) (s₀ s₁ : Shared) (mg mb : Str → Option Value) (fa : Addr) (o : Obj) (pm cd doc : Value) (a : Addr) (vs : List Value) (ns : List Int),
      Ground q loose [] XP w s₀ mg mb s₁.heap → YP w s₁.heap →
      s₁.heap.get? fa = some o → o.data = .func (docDef d.name d.params d.body d.scope pm cd doc) → s₁.heap.CodeRec cd d.name → mg d.name = some (.ref fa) →
      s₁.heap.get? a = some { cls := .type "list", data := .seq vs.toArray } → IntsAre vs ns → ns.length ≤ n → s₁.gens = #[] →
      codeAny (model l.prog w) callerA (.call (.ref fa) ⟨[.ref a], []⟩) (fun r s' => r = .ok (.ret (.bool true)) ∧ OldK s₁.heap s'.heap ∧ s'.os = s₁.os ∧ AllBare s'.gens) s₁) :
    WalkO q loose XP YP l.row.toRowW d [] (fun f vs => PySem.call f vs) := by
  intro w s₀ s₁ mg mb G Y fa o pm cd doc dV kV ho hd hcd hD hmg hg args vals as hpre hlay hrd hwl hlo
  obtain rfl : dV = .none := Dflts.none hD hdf
  obtain rfl : kV = .none := Dflts.noKw hD
  obtain ⟨a, vs, ns, rfl, rfl, hobj, hints, hlen⟩ := script_of hn hpre hwl
  refine enter_call (codeAny_mono (call w s₀ s₁ mg mb fa o pm cd doc a vs ns G Y ho (fd_plain hd) hcd hmg hobj hints hlen hg) fun r s' hq => ?_)
  obtain ⟨rfl, h2, h3, h4⟩ := hq
  exact ⟨.inl ⟨.bool true, .bool true, [], rfl, fun _ => rfl, .bool true, post_true l _, fun _ => ⟨List.Pairwise.nil, fun _ hm => (nomatch hm)⟩⟩, h2, h3, h4⟩

/-- the same where the top left finished generators (o_head chose holds_openN): nothing may have changed at all and no generator may be left -/
theorem attachN {l : OpenLaw} {n : Nat} {q : Program} {loose : List Str} {XP : (Str → Option Value) → Heap → Prop} {YP : World → Heap → Prop} {d : DefRec} {x : Str}
    (hn : l.most = some n) (hdf : d.params.defaults = [])
    (hbind : ∀ pm cd doc v : Value, bindArgs (docDef d.name d.params d.body d.scope pm cd doc) ⟨[v], []⟩ = pure [(x, v)])
    (hx : d.scope.names.lookup x = some .local ∨ d.scope.names.lookup x = some .cell)
    (hk : d.scope.kind = .function) (hco : d.scope.isCoroutine = false) (hgen : d.scope.isGenerator = false)
    (body : ∀ (w : World) (s₀ s₁ s : Shared) (mg mb : Str → Option Value) (fa : Addr) (o : Obj) (pm cd doc : Value) (a : Addr) (vs : List Value) (ns : List Int),
      Ground q loose [] XP w s₀ mg mb s₁.heap → YP w s₁.heap →
      s₁.heap.get? fa = some o → o.data = .func (docDef d.name d.params d.body d.scope pm cd doc) → s₁.heap.CodeRec cd d.name → mg d.name = some (.ref fa) →
      s₁.heap.get? a = some { cls := .type "list", data := .seq vs.toArray } → IntsAre vs ns → ns.length ≤ n →
      s.gens = #[] → s.os = s₁.os →
      Fr s₁.heap s₁.heap.objs.size s.heap (bindL (envOfC d.name d.scope s₁.heap.objs.size fa cd).kindOf [(x, .ref a)] fun _ => none) →
      Cl s₁.heap.objs.size (cellsFrom (s₁.heap.objs.size + 1) d.scope.names []) s.heap (bindC (envOfC d.name d.scope s₁.heap.objs.size fa cd).kindOf [(x, .ref a)] fun _ => none) →
      wpAny (model l.prog w) (callerA.deeper (envOfC d.name d.scope s₁.heap.objs.size fa cd)) (execs d.body (envOfC d.name d.scope s₁.heap.objs.size fa cd))
        (fun f s' => f = .ret (.bool true) ∧ (∀ b o, s₁.heap.get? b = some o → s'.heap.get? b = some o) ∧ s'.os = s₁.os ∧ s'.gens = #[]) (fun _ _ => False) s) :
    WalkN q loose XP YP l.row.toRowW d [] (fun f vs => PySem.call f vs) := by
  intro w s₀ s₁ mg mb G Y fa o pm cd doc dV kV ho hd hcd hD hmg hg args vals as hpre hlay hrd hwl hlo
  obtain rfl : dV = .none := Dflts.none hD hdf
  obtain rfl : kV = .none := Dflts.noKw hD
  obtain ⟨a, vs, ns, rfl, rfl, hobj, hints, hlen⟩ := script_of hn hpre hwl
  refine enter_callW ?_
  refine call_cells_ret (o := o) (by rw [depth_caller]; decide) ho (fd_plain hd) G.T.nolimit hcd (hbind pm cd doc (.ref a)) (fun y hy => ?_) (fun h₁ tk F X => ?_) hco hgen hk
  · obtain rfl : y = (x, Value.ref a) := List.mem_singleton.mp hy
    rcases hx with e | e
    · exact .inl e
    · exact .inr ⟨e, cellsFrom_some _ _ _ (.inl e)⟩
  · refine wpAny_mono (body w s₀ s₁ { s₁ with heap := h₁, toks := tk } mg mb fa o pm cd doc a vs ns G Y ho (fd_plain hd) hcd hmg hobj hints hlen hg rfl F X) (fun f s' hq => ?_) (fun _ _ hq => hq)
    obtain ⟨rfl, h2, h3, h4⟩ := hq
    exact ⟨.inl ⟨.bool true, .bool true, [], rfl, fun _ => rfl, .bool true, post_true l _, fun _ => ⟨List.Pairwise.nil, fun _ hm => (nomatch hm)⟩⟩, h2, h3, h4⟩

/-! ### rules over ANY heap (no ledger) from facts about the written part K: the library's own take a ledger (News) for what they write -/
section
variable {prog : Program} {w : World} {A : Around} {E : Value → Shared → Prop} {s : Shared} {K : Frag}

/-- a def of the module, or a method (qual 'C.m'), entered: the frame is the next address; cells behind it -/
theorem call_fn {R : Result → Shared → Prop} {name qual : Str} {params : Arguments} {body : List Stmt} {scope : Scope} {dV kV doc pm cdv ct oc : Value} {an od : Option Addr} {osl : Array (Option Value)} {f : Addr} {args : Args} {binds : List (Str × Value)}
    (X : K.In s.heap) (hlim : s.heap.NoLimit) (ho : K.lookup f = some ⟨oc, od, .func (fnOf name qual params body scope dV kV doc pm an cdv ct), osl⟩) (hcd : codeIn K cdv qual = true) (hroom : A.depth < recursionLimit)
    (hbind : BindsTo s (fnOf name qual params body scope dV kV doc pm an cdv ct) args binds)
    (hkind : (binds.all fun y => scope.names.lookup y.1 == some .local || scope.names.lookup y.1 == some .cell) = true)
    (h : ∀ s₁, InCallC s s.heap.objs.size (bindL (envOfC qual scope s.heap.objs.size f cdv).kindOf binds fun _ => none) (cellsFrom (s.heap.objs.size + 1) scope.names [])
        (bindC (envOfC qual scope s.heap.objs.size f cdv).kindOf binds fun _ => none) s₁ →
      wpAny (model prog w) (A.deeper (envOfC qual scope s.heap.objs.size f cdv)) (execs body (envOfC qual scope s.heap.objs.size f cdv))
        (fun fl s' => R (.ok (.ret (match fl with | .ret v => v | _ => .none))) s')
        (fun e s' => wpAny (model prog w) (A.deeper (envOfC qual scope s.heap.objs.size f cdv)) (leaving (envOfC qual scope s.heap.objs.size f cdv) e) (fun _ s'' => R (.error e) s'') (fun e' s'' => R (.error e') s'') s') s₁)
    (hco : scope.isCoroutine = false) (hgen : scope.isGenerator = false) (hk : scope.kind = .function) : codeAny (model prog w) A (.call (.ref f) args) R s := by
  refine codeAny_call_function hroom (X _ _ ho) rfl hco hgen rfl (codeRec_of X hcd) (hbind _ _ _ _ ?_)
  refine wpAny_newFunctionEnv_cells hk (kindsX hkind _) fun env he s₁ x => ?_
  subst he
  exact ⟨hlim.keeps x.toInCall.keep, codeAny_func (h s₁ x)⟩

/-- C(..): dict at size, instance at size + 1, then __init__ -/
theorem make_obj {R : Result → Shared → Prop} {C fI : Addr} {rest : List Value} {kw : List (Str × Value)}
    (X : K.In s.heap) (hm : makesIn K C = true) (hi : findIn K (.ref C) "__init__" = some (some (.ref fI))) (hf : isFn K (.ref fI) = true)
    (h : codeAny (model prog w) (A.under (.builtin "type.__call__" ⟨.ref C :: rest, kw⟩)) (.call (.ref fI) ⟨.ref (s.heap.objs.size + 1) :: rest, kw⟩) (InitBack (s.heap.objs.size + 1) R)
      { s with heap := (s.heap.push emptyDict).push (instObj C s.heap.objs.size) }) : codeAny (model prog w) A (.call (.ref C) ⟨rest, kw⟩) R s := by
  obtain ⟨hh, g, d, t, os⟩ := s
  exact make_core (makes_of X hm) (looks_findIn X hi) (fun self => bind_fn X self (beq_iff_eq.mp hf)) (.inl rfl) h

/-- x.name where the instance's dict holds the name and the class does not -/
theorem get_field {x C : Addr} {ox : Obj} {es : List DictEntry} {n : Nat} {name : Str} {expr : Bool} {v : Value} {Q : Value → Shared → Prop}
    (X : K.In s.heap) (I : PySem.W.InstAt s.heap x ox C (some (dictOf es n))) (hg : plainGet K C name = true) (hh : hasDictIn K C = true) (ha : findIn K (.ref C) name = some none)
    (hl : getL name es = some (some v)) (hv : handedIn v = true) (h : Q v { s with toks := s.toks + 1 }) : wpAny (model prog w) A (getAttr (.ref x) name expr) Q E s :=
  get_value X I (plainGet_of hg).1 (findObj_own hh ha rfl hl) hv h

/-- x.m(..): the method found in the class -/
theorem get_method {x C f : Addr} {ox : Obj} {es : List DictEntry} {n : Nat} {name : Str} {pl : Sem Bool} {Q : Value × List Value → Shared → Prop}
    (X : K.In s.heap) (I : PySem.W.InstAt s.heap x ox C (some (dictOf es n))) (hg : plainGet K C name = true) (hf : findIn K (.ref C) name = some (some (.ref f))) (ht : isFn K (.ref f) = true)
    (hl : getL name es = some none) (h : Q (.ref f, [.ref x]) s) : wpAny (model prog w) A (getMethod (.ref x) name pl) Q E s :=
  method_fn X I (plainGet_of hg).1 (plainGet_of hg).2 hf (beq_iff_eq.mp ht) (by show (lookIn name (dictOf es n)).map _ = _; rw [lookIn_dict, hl]; rfl) h

/-! the whole heap as the ledger: makes every rule that writes through a ledger a rule over any heap -/
def noObjs (h : Heap) : Heap := { h with objs := #[] }
theorem noObjs_get (h : Heap) (b : Addr) : (noObjs h).get? b = none := by
  cases e : (noObjs h).get? b with
  | none => rfl
  | some o => exact absurd (Heap.lt_size e) (Nat.not_lt_zero _)
def ledger (h : Heap) (L d : Addr) : List (Addr × Obj) := (List.range h.objs.size).filterMap fun a => if a = L ∨ a = d then none else (h.get? a).map fun o => (a, o)
theorem mem_ledger {h : Heap} {L d a : Addr} {o : Obj} : (a, o) ∈ ledger h L d ↔ a ≠ L ∧ a ≠ d ∧ h.get? a = some o := by
  unfold ledger
  rw [List.mem_filterMap]
  constructor
  · rintro ⟨b, _, e⟩
    split at e
    · cases e
    · rename_i hb
      obtain ⟨o', ho, e'⟩ := Option.map_eq_some_iff.mp e
      cases e'
      exact ⟨fun q => hb (.inl q), fun q => hb (.inr q), ho⟩
  · rintro ⟨n1, n2, ho⟩
    refine ⟨a, List.mem_range.mpr (Heap.lt_size ho), ?_⟩
    rw [if_neg (show ¬ (a = L ∨ a = d) from fun q => q.elim n1 n2), ho] <;> rfl
theorem news_ledger {h : Heap} {L d : Addr} {od : Obj} (hne : d ≠ L) (ho : h.get? d = some od) : News (noObjs h) L h ([] ++ (d, od) :: ledger h L d) := by
  rintro ⟨a, o⟩ hp
  rcases List.mem_cons.mp hp with e | hp
  · cases e
    exact ⟨ho, hne, noObjs_get _ _⟩
  · obtain ⟨n1, n2, e⟩ := mem_ledger.mp hp
    exact ⟨e, n1, noObjs_get _ _⟩
theorem fr_all {h : Heap} {L : Addr} {m : Str → Option Value} (n : h.Ns L m) : Fr (noObjs h) L h m :=
  ⟨n, fun b o e => (by rw [noObjs_get] at e; cases e), Nat.zero_le _⟩
/-- Upd of the head entry (for append_K, setItem_K ..) -/
theorem upd_ledger {h : Heap} {L d : Addr} {o o' : Obj} : Upd d o o' ((d, o) :: ledger h L d) ((d, o') :: ledger h L d) :=
  .head fun ⟨_, _⟩ hp => (mem_ledger.mp hp).2.1

/-- x.name = v over any heap: L is any namespace of the heap (the frame's, say): its map stays, its object is not told; all else but the dict stays -/
theorem set_field {x C dx L : Addr} {ox : Obj} {m : Str → Option Value} {es es' : List DictEntry} {n n' : Nat} {name : Str} {v : Value} {Q : Unit → Shared → Prop}
    (X : K.In s.heap) (I : PySem.W.InstAt s.heap x ox C (some (dictOf es n))) (hd : ox.dict = some dx) (hL : s.heap.Ns L m) (hne : dx ≠ L)
    (hs : findIn K (.ref C) "__setattr__" = some (some (.builtin "object.__setattr__"))) (hp : plainOver K C = true) (ht : takerIn K C name = some none) (hh : hasDictIn K C = true) (hl : (getL name es).isSome = true)
    (e : (putL name (PyData.keyHash w.params name) (.str name (s.toks + 1)) v es, putN name es n) = (es', n')) (hz : es'.length ≤ 1000)
    (h : ∀ h' : Heap, h'.Ns L m → h'.get? dx = some (dictOf es' n') → (∀ b o, b ≠ dx → b ≠ L → s.heap.get? b = some o → h'.get? b = some o) → Q () { s with heap := h', toks := s.toks + 2 }) :
    wpAny (model prog w) A (setAttr (.ref x) name v) Q E s := by
  obtain ⟨e1, e2⟩ := Prod.mk.inj e
  have hdx : s.heap.get? dx = some (dictOf es n) := by
    have := I.dict
    rw [hd] at this
    exact this
  refine set_plain X I hs (osa_dict (s := { s with toks := s.toks + 1 }) (h₀ := noObjs s.heap) (L := L) (m := m) (od := dictOf es n) (od' := dictOf es' n') (es := es') (n := n') (pre := []) (post := ledger s.heap L dx)
    (fr_all hL) (news_ledger hne hdx) X I hd hp ht hh hl (fun _ q => nomatch q) (fun ⟨_, _⟩ q => (mem_ledger.mp q).2.1) (by rw [putName_dict, e1, e2]) rfl hz fun h' F' N' => ?_)
  exact h h' F'.ns (N'.get (List.Mem.head _)) fun b o n1 n2 ho => N'.get (List.Mem.tail _ (mem_ledger.mpr ⟨n2, n1, ho⟩))
end
end Att

namespace L2
open PySem PySem.Spec PyProof.Rows

theorem vals_ints : ∀ {vs : List Value} {ns : List Int}, IntsAre vs ns → Vals (ns.map V.int) vs
  | _, _, .nil => .nil
  | _, _, .cons n t h => .cons ⟨t, rfl⟩ (vals_ints h)

/-- nothing is tracked but the script, known to the object (or it is an object of the module) -/
def Only (H : Hp) : Prop := ∀ b, H b = none ∨ ∃ o xs, H b = some (.frz o (.lst xs))

/-- THE HEAD: the law's promise, at the heap behind the top. F, the promise of the law's def, may use that base is part of the heap (so K.In base, base.Ns mainGlobals mg stand in Mod) -/
theorem law_call {P : Program} {w : World} {K : PySem.W.Frag} {mg mb : Str → Option Value} {CX : CXT} {k : Nat} {fa a : Addr} {fd : FuncData} {x : Str} {sp : Sp} {s₁ : Shared} {vs : List Value} {ns : List Int}
    (KX : K.In s₁.heap) (hns : s₁.heap.Ns mainGlobals mg) (hb : s₁.heap.Ns builtinsNs mb) (hbb : ∀ x : Str, x ≠ "__name__" → mb x = bootBuiltins x) (hlim : s₁.heap.NoLimit) (hg : s₁.gens = #[])
    (ha : s₁.heap.get? a = some { cls := .type "list", data := .seq vs.toArray }) (hi : IntsAre vs ns) (hl : ns.length ≤ sizeLine) (hr : Room k callerA)
    (F : ∀ base : Heap, K.In base → base.Ns mainGlobals mg → FnOk P w K mg base CX k fa fd [x] sp) (hbind : ∀ (s : Shared) (u : Value), BindsTo s fd ⟨[u], []⟩ [(x, u)])
    (hsp : ∀ H : Hp, Only H → SqL K H a (ns.map V.int) → sp [.ref a] H (fun v _ => v = .bl true) fun _ _ _ => False)
    (hCX : ∀ H e s', CX [] H s₁ (fun _ _ _ => False) e s' → False) :
    codeAny (model P w) callerA (.call (.ref fa) ⟨[.ref a], []⟩) (fun r s' => r = .ok (.ret (.bool true)) ∧ OldK s₁.heap s'.heap ∧ s'.os = s₁.os ∧ AllBare s'.gens) s₁ := by
  have rv := vals_ints hi
  have lenV := hi.length
  -- from an abstract heap in which nothing but the script may be tracked
  have core : ∀ H : Hp, Only H → SqL K H a (ns.map V.int) → HOk P w H s₁.heap → (∀ b, H b ≠ none → b = a) → (H a ≠ none → K.lookup a = none) →
      codeAny (model P w) callerA (.call (.ref fa) ⟨[.ref a], []⟩) (fun r s' => r = .ok (.ret (.bool true)) ∧ OldK s₁.heap s'.heap ∧ s'.os = s₁.os ∧ AllBare s'.gens) s₁ := by
    intro H hO hS hok hA hK
    have base_of : ∀ {b : Addr} {o : Obj}, s₁.heap.get? b = some o → H b = none → (hidT s₁.heap H).get? b = some o := fun e n => hidT_get e n
    have noA : ∀ {b : Addr} {o : Obj} {es : Array DictEntry} {ep : Nat}, s₁.heap.get? b = some o → o.data = .dict es ep → H b = none := fun {b o es ep} e d => by
      cases q : H b with
      | none => rfl
      | some u =>
        have e' : b = a := hA b (by rw [q]; simp)
        subst e'
        rw [ha] at e; cases e
        have d' : Data.seq vs.toArray _ = Data.dict es ep := d
        cases d'
    have nsK : ∀ {b : Addr} {m : Str → Option Value}, s₁.heap.Ns b m → (hidT s₁.heap H).Ns b m := fun {b m} ⟨o, es, ep, e, d, r⟩ => ⟨o, es, ep, base_of e (noA e d), d, r⟩
    have hKb : K.In (hidT s₁.heap H) := fun b o e => base_of (KX b o e) (by
      cases q : H b with
      | none => rfl
      | some u =>
        have e' : b = a := hA b (by rw [q]; simp)
        subst e'
        rw [hK (by rw [q]; simp)] at e; cases e)
    have hM : Mod K mg (hidT s₁.heap H) := ⟨hKb, nsK hns, ⟨mb, nsK hb, hbb⟩, let ⟨mc, h1, h2⟩ := hlim; ⟨mc, nsK h1, h2⟩⟩
    have e0 : Env0 P w K mg (hidT s₁.heap H) callerA [] s₁ H := ⟨rfl, hM, fun b o e => of_hidT e, Nat.le_of_eq (hidT_size _ _), trivial, fun b hb => absurd (show b ∈ ([] : List Addr) from hb) (by simp), hok, .of_eq hg⟩
    refine codeAny_mono ((F _ hKb (nsK hns)).run callerA [] s₁ H ⟨[.ref a], []⟩ [.ref a] [.ref a] _ _ hr e0 (hbind s₁ (.ref a)) (.cons rfl .nil) (hsp H hO hS)) fun r s' h => ?_
    cases r with
    | error e => exact (hCX H e s' h).elim
    | ok fl =>
      cases fl with
      | next => exact False.elim h
      | brk => exact False.elim h
      | cont => exact False.elim h
      | ret u =>
        obtain ⟨v, H', os, bare, un, hok', r', q⟩ := h
        have q' : v = .bl true := q
        subst q'
        obtain rfl : u = Value.bool true := r'
        refine ⟨rfl, OldK.of_keep fun b o e => ?_, os, bare⟩
        cases q : H b with
        | none => exact un.keep b o e q (by intro z; exact absurd (show b ∈ ([] : List Addr) from z) (by simp)) (by simp)
        | some u =>
          rcases hO b with z | ⟨ob, xs, z⟩
          · rw [q] at z; cases z
          · have z2 := un.frzs b ob _ z
            obtain ⟨e1, _⟩ := hok b _ z
            obtain ⟨e2, _⟩ := hok' b _ z2
            rw [e] at e1; cases e1
            exact e2
  cases hk : K.lookup a with
  | some o =>
    -- the script is one of the module's own objects
    have e := KX a o hk
    rw [ha] at e
    cases e
    refine core (fun _ => none) (fun _ => .inl rfl) (.inr ⟨_, vs.toArray, _, hk, rfl, rfl, rfl, by rw [List.size_toArray, lenV]; exact hl, by simpa using rv⟩) (fun b u z => by have z' : (none : Option HO) = some u := z; cases z') (fun b z => absurd rfl z) fun z => absurd rfl z
  | none =>
    refine core (fun b => if b = a then some (.frz { cls := .type "list", data := .seq vs.toArray } (.lst (ns.map V.int))) else none) (fun b => ?_) (.inl (.inr ⟨{ cls := .type "list", data := .seq vs.toArray }, if_pos rfl⟩)) (fun b u z => ?_) (fun b z => ?_) fun _ => hk
    · by_cases hb : b = a
      · exact .inr ⟨_, _, if_pos hb⟩
      · exact .inl (if_neg hb)
    · by_cases hb : b = a
      · have z' := (if_pos hb).symm.trans z
        cases z'
        subst hb
        exact ⟨ha, by rw [List.length_map]; exact hl, vs, _, rv, ha⟩
      · have z' := (if_neg hb).symm.trans z
        cases z'
    · by_cases hb : b = a
      · exact hb
      · exact absurd (if_neg hb) z
end L2

namespace L2
open PySem PySem.Spec PyProof.Rows

abbrev KOf {K : PySem.W.Frag} {h : Heap} (_ : K.In h) : PySem.W.Frag := K

/-- the goal that k_head leaves (case hc), from the law's promise. F gives the function object fd (K's own) once, then the promise over every base -/
theorem walk_of {l : PySem.W.OpenLaw} {n k : Nat} {q : Program} {loose : List Str} {XP : (Str → Option Value) → Heap → Prop} {YP : World → Heap → Prop} {d : DefRec} {K : Params → PySem.W.Frag} {CX : World → CXT} {sp : World → Sp} {x : Str}
    (hn : l.most = some n) (hn2 : n ≤ sizeLine) (hdf : d.params.defaults = []) (hr : Room k callerA)
    (hY : ∀ (w : World) (h : Heap), YP w h → (K w.params).In h)
    (F : ∀ (w : World) (mg : Str → Option Value) (fa : Addr) (h : Heap), (K w.params).In h → h.Ns mainGlobals mg → mg d.name = some (.ref fa) →
      ∃ fd : FuncData, (∀ (s : Shared) (u : Value), BindsTo s fd ⟨[u], []⟩ [(x, u)]) ∧
        ∀ base : Heap, (K w.params).In base → base.Ns mainGlobals mg → FnOk l.prog w (K w.params) mg base (CX w) k fa fd [x] (sp w))
    (hsp : ∀ (w : World) (H : Hp) (a : Addr) (ns : List Int), ns.length ≤ n → Only H → SqL (K w.params) H a (ns.map V.int) → sp w [.ref a] H (fun v _ => v = .bl true) fun _ _ _ => False)
    (hCX : ∀ (w : World) (H : Hp) (s : Shared) (e : Value) (s' : Shared), CX w [] H s (fun _ _ _ => False) e s' → False) :
    PySem.W.WalkO q loose XP YP l.row.toRowW d [] (fun f vs => PySem.call f vs) := by
  refine Att.attach_call hn hdf fun w s₀ s₁ mg mb fa o pm cd doc a vs ns G Y ho hd hcd hmg hobj hints hlen hg => ?_
  have KX := hY w _ Y
  obtain ⟨fd, hb, hF⟩ := F w mg fa _ KX G.T.g hmg
  exact law_call KX G.T.g G.T.b G.T.builtins G.T.nolimit hg hobj hints (Nat.le_trans hlen hn2) hr hF hb (fun H hO hS => hsp w H a ns hlen hO hS) fun H e s' => hCX w H s₁ e s'
/-- the same where the promise hangs on the written part alone: (sp := My.sp_law), no hole under a binder -/
theorem walk_ofK {l : PySem.W.OpenLaw} {n k : Nat} {q : Program} {loose : List Str} {XP : (Str → Option Value) → Heap → Prop} {YP : World → Heap → Prop} {d : DefRec} {K : Params → PySem.W.Frag} {CX : CXT} {sp : PySem.W.Frag → Sp} {x : Str}
    (hn : l.most = some n) (hn2 : n ≤ sizeLine) (hdf : d.params.defaults = []) (hr : Room k callerA)
    (hY : ∀ (w : World) (h : Heap), YP w h → (K w.params).In h)
    (F : ∀ (w : World) (mg : Str → Option Value) (fa : Addr) (h : Heap), (K w.params).In h → h.Ns mainGlobals mg → mg d.name = some (.ref fa) →
      ∃ fd : FuncData, (∀ (s : Shared) (u : Value), BindsTo s fd ⟨[u], []⟩ [(x, u)]) ∧
        ∀ base : Heap, (K w.params).In base → base.Ns mainGlobals mg → FnOk l.prog w (K w.params) mg base CX k fa fd [x] (sp (K w.params)))
    (hsp : ∀ (K : PySem.W.Frag) (H : Hp) (a : Addr) (ns : List Int), ns.length ≤ n → Only H → SqL K H a (ns.map V.int) → sp K [.ref a] H (fun v _ => v = .bl true) fun _ _ _ => False)
    (hCX : ∀ (H : Hp) (s : Shared) (e : Value) (s' : Shared), CX [] H s (fun _ _ _ => False) e s' → False) :
    PySem.W.WalkO q loose XP YP l.row.toRowW d [] (fun f vs => PySem.call f vs) :=
  walk_of (K := K) (CX := fun _ => CX) (sp := fun w => sp (K w.params)) hn hn2 hdf hr hY F (fun w H a ns h1 h2 h3 => hsp (K w.params) H a ns h1 h2 h3) fun _ H s e s' => hCX H s e s'
end L2

/- THE LAST THEOREM (shape; LID, My.* are yours):
   My.Adr: a structure of the addresses that your layer names (classes, functions); My.Txt K t: a structure (Prop) of the equations over K;
   My.txt_mk : {K} {implicit addresses ..} (e1 : nsIn K mainGlobals "law" = some (some (.ref f))) (e2 : K.lookup f = some ⟨oc, od, .func (fnOf "law" "law" params body scope dV kV doc pm an cdv ct), sl⟩) (e3 : codeIn K cdv "law" = true) .. : ∃ t, My.Txt K t

set_option maxRecDepth 100000 in
set_option maxHeartbeats 0 in
theorem PySem.Challenge.cw_LID_holds : PySem.Challenge.rw_LID.Holds := by
  w_on; o_law; k_head; (case hw => w_witness2)
  k_fill
  refine L2.walk_of (l := PySem.Challenge.rw_LID) (n := 63) (k := 40) (x := "script") (CX := fun w => ..) (sp := fun _ => My.sp_law) rfl (by decide) rfl ⟨rfl, by decide, by decide⟩ (fun w h Y => PySem.W.kIn_of Y) ?F ?S ?C
  case F =>
    intro w mg fa h KX G hmg
    have T : ∃ t, My.Txt (L2.KOf KX) t := by
      dsimp only [L2.KOf]                          -- K must stand as «<heap const> w.params» for k_is
      refine' My.txt_mk ?e1 ?e2 ?e3 ..
      (case e1 => PySem.W.k_is)                    -- in the order: a name -> its address -> its object -> its parts
      (case e2 => PySem.W.k_is)
      ..
    obtain ⟨t, T⟩ := T
    have e0 := hmg.symm.trans (PySem.W.mg_of KX G T.law)
    cases e0                                       -- fa is the law's own address
    exact ⟨_, fun s u => .of_eq rfl, fun base kb nb => My.law_fn T kb nb⟩     -- if «.of_eq rfl» comes too early: refine' ⟨_, ?b, fun base kb nb => My.law_fn T kb nb⟩; exact fun s u => .of_eq rfl
  case S => exact fun w H a ns hl hO hS => ..
  case C => exact ..
(the tactic k_is has no namespace: write k_is) -/

/-! SHORT WORDS over the layer: a def of the text, its body, what a loop and a test want. -/
namespace L2
open PySem PySem.Spec PyProof.Rows

/-! ### the text by places -/
/-- the j-th statement of a class's body -/
def inClass (s : Stmt) (j : Nat) : Stmt := match s with
  | .ClassDef _ _ _ body _ _ _ _ _ _ _ => body.getD j (.Pass ⟨0, 0, 0, 0⟩)
  | _ => .Pass ⟨0, 0, 0, 0⟩
def defArgs (s : Stmt) : Arguments := match s with
  | .FunctionDef _ a _ _ _ _ _ _ _ _ => a
  | _ => { posonlyargs := [], args := [], vararg := none, kwonlyargs := [], kw_defaults := [], kwarg := none, defaults := [] }
def defBody (s : Stmt) : List Stmt := match s with
  | .FunctionDef _ _ b _ _ _ _ _ _ _ => b
  | _ => []
def defScope (s : Stmt) : Scope := match s with
  | .FunctionDef _ _ _ _ _ _ sc _ _ _ => sc
  | _ => { kind := .function, names := [], isGenerator := false, isCoroutine := false }

/-! ### no exception leaves a def -/
abbrev CX0 : CXT := fun _ _ _ _ _ _ => False
abbrev E0 : XK := fun _ _ _ => False
theorem pass0 {X : Cx} : Passes CX0 X E0 := fun _ _ _ _ _ _ _ h => h.elim

/-! ### a def (or method) of the text as it stands behind the top -/
structure Fun (K : PySem.W.Frag) (x qual : Str) (st : Stmt) (f : Addr) (fd : FuncData) : Prop where
  ex : ∃ (oc : Value) (od : Option Addr) (kV doc pm : Value) (an : Option Addr) (cdv ct : Value) (osl : Array (Option Value)),
    fd = PySem.W.fnOf x qual (defArgs st) (defBody st) (defScope st) .none kV doc pm an cdv ct ∧ K.lookup f = some ⟨oc, od, .func fd, osl⟩ ∧ PySem.W.codeIn K cdv qual = true
  kp : PySem.W.keepIn K (.ref f) = true
section
variable {P : Program} {w : World} {K : PySem.W.Frag} {mg : Str → Option Value} {base : Heap}
/-- THE RULE for a def: its body as a term of rules, and the reading of that term -/
theorem Fun.ok {x qual : Str} {st : Stmt} {f : Addr} {fd : FuncData} {N ps : List Str} {k : Nat} {sp : Sp} (F : Fun K x qual st f fd) (S : FnScope N ps (defScope st)) (len : ∀ vs H Q E, sp vs H Q E → vs.length = ps.length)
    (hbody : ∀ (cdv : Value) (A : Around) (outer : List Env) (s : Shared) (H : Hp) (vs : List V) (Q : VK) (E : XK), Room k (A.deeper (envOfC qual (defScope st) s.heap.objs.size f cdv)) → sp vs H Q E →
      ∃ t, PSs (cxOf CX0 P w K mg base N qual (defScope st) f cdv A outer s H E).nox (defBody st) t ∧ t { nx := fun _ H' => Q .non H', rt := Q } (start N vs) H) : FnOk P w K mg base CX0 (k + 1) f fd ps sp := by
  obtain ⟨oc, od, kV, doc, pm, an, cdv, ct, osl, rfl, lk, hcd⟩ := F.ex
  refine fn_of lk hcd S len fun A outer s H vs Q E hr hsp => ?_
  obtain ⟨t, h, q⟩ := hbody cdv A outer s H vs Q E hr hsp
  exact ⟨t, h.nox, q⟩
/-- how its arguments bind (no defaults): h is «fun _ _ _ _ _ _ us hl => match us, hl with | [_, _], _ => rfl», one _ a parameter -/
theorem Fun.binds {x qual : Str} {st : Stmt} {f : Addr} {fd : FuncData} {ps : List Str} (F : Fun K x qual st f fd)
    (h : ∀ (kV doc pm : Value) (an : Option Addr) (cdv ct : Value) (us : List Value), us.length = ps.length → bindArgs (PySem.W.fnOf x qual (defArgs st) (defBody st) (defScope st) .none kV doc pm an cdv ct) ⟨us, []⟩ = pure (ps.zip us)) : Binds K fd ps [] := by
  obtain ⟨oc, od, kV, doc, pm, an, cdv, ct, osl, rfl, lk, hcd⟩ := F.ex
  exact .all (h kV doc pm an cdv ct)
theorem fun_mk {x qual : Str} {st : Stmt} {f : Addr} {oc : Value} {od an : Option Addr} {osl : Array (Option Value)} {kV doc pm cdv ct : Value} (l : K.lookup f = some ⟨oc, od, .func (PySem.W.fnOf x qual (defArgs st) (defBody st) (defScope st) .none kV doc pm an cdv ct), osl⟩)
    (c : PySem.W.codeIn K cdv qual = true) (k : PySem.W.keepIn K (.ref f) = true) : Fun K x qual st f (PySem.W.fnOf x qual (defArgs st) (defBody st) (defScope st) .none kV doc pm an cdv ct) := ⟨⟨oc, od, kV, doc, pm, an, cdv, ct, osl, rfl, l, c⟩, k⟩
end
theorem hu_of {A : Around} {k : Nat} (hr : Room k A) : A.units + 1 < cLine := Nat.lt_of_le_of_lt (Nat.add_le_add_left (by decide : 1 ≤ 64) _) hr.units
theorem small1000 {n : Nat} (h : n ≤ 1000) : n < sizeLine := Nat.lt_of_le_of_lt h (by decide)

/-! ### expressions in short: the name that stands in the i-th slot -/
section
variable {X : Cx}
theorem pv (i : Nat) {x : Str} {pos : Pos} (hN : X.N[i]? = some x := by rfl) (hv : Vis X.env.scope x := by first | exact Or.inl rfl | exact Or.inr (Or.inl rfl) | exact Or.inr (Or.inr rfl)) (hd : (x == ("__debug__" : Str)) = false := by decide)
    (hcd : (x == ("__classdict__" : Str)) = false := by decide) : PE X (.Name x pos) (tVar i) := pe_var hN hv hd hcd
end

/-! ### tests -/
theorem iteF {A B : Prop} (h : B) : if false = true then A else B := by
  rw [if_neg Bool.false_ne_true]
  exact h
theorem iteT {A B : Prop} (h : A) : if true = true then A else B := by
  rw [if_pos rfl]
  exact h
theorem ite2 {c A B : Prop} [Decidable c] (h1 : c → A) (h2 : ¬ c → B) : if c then A else B := by
  by_cases h : c
  · rw [if_pos h]
    exact h1 h
  · rw [if_neg h]
    exact h2 h
theorem iteNS {c A B : Prop} [Decidable c] (hc : c) (h : B) : if (!decide c) = true then A else B := by
  rw [decide_eq_true hc]
  exact iteF h

/-! ### heaps -/
/-- all that was tracked is as it was -/
def Same (H H' : Hp) : Prop := ∀ b o, H b = some o → H' b = some o
theorem Same.refl (H : Hp) : Same H H := fun _ _ h => h
theorem Same.trans {H H1 H2 : Hp} (a : Same H H1) (b : Same H1 H2) : Same H H2 := fun c o h => b c o (a c o h)
theorem Same.free {H H' : Hp} (e : Same H H') {l : Addr} (h : H' l = Option.none) : H l = Option.none := by
  cases q : H l with
  | none => rfl
  | some o =>
    rw [e l o q] at h
    cases h
theorem Same.seq {K : PySem.W.Frag} {H H' : Hp} {a : Addr} {xs : List V} (e : Same H H') (h : SqL K H a xs) : SqL K H' a xs := by
  rcases h with (h | ⟨o, h⟩) | h
  · exact .inl (.inl (e _ _ h))
  · exact .inl (.inr ⟨o, e _ _ h⟩)
  · exact .inr h

end L2

namespace L2
open PySem PySem.Spec PyProof.Rows

section
variable {X : Cx}
/-- len of a dict -/
theorem call_lenD : CallR X (.builtin "len") (fun xs H Q => ∃ a kvs, xs = [V.ref a] ∧ H a = some (.dK kvs) ∧ Q (.int kvs.length) H) := by
  intro pins s σ H xs us Q I r h
  obtain ⟨a, kvs, rfl, ha, q⟩ := h
  obtain ⟨u, rfl, ru⟩ := vals1 r
  cases ru
  exact d_len I (.inl ha) fun t s' I' => ⟨.int kvs.length, H, I', ⟨t, rfl⟩, q⟩
end
/-! ### a dict's pairs: keys that differ -/
section
variable {κ : Type} [DecidableEq κ]
theorem valV_not {kvs : List (κ × V)} {k : κ} (h : valV kvs k = none) : ¬ k ∈ kvs.map (·.1) := by
  intro m
  obtain ⟨p, hp, e⟩ := List.mem_map.mp m
  have q : (kvs.any fun kv => decide (kv.1 = k)) = true := List.any_eq_true.mpr ⟨p, hp, decide_eq_true e⟩
  rw [valV_any, h] at q
  exact absurd q (by simp)
theorem valV_in {kvs : List (κ × V)} {k : κ} {v : V} (h : valV kvs k = some v) : k ∈ kvs.map (·.1) := by
  have q : (kvs.any fun kv => decide (kv.1 = k)) = true := by
    rw [valV_any, h]
    all_goals rfl
  obtain ⟨p, hp, e⟩ := List.any_eq_true.mp q
  exact List.mem_map.mpr ⟨p, hp, of_decide_eq_true e⟩
theorem nd_snoc : ∀ {l : List κ} {k : κ}, l.Nodup → ¬ k ∈ l → (l ++ [k]).Nodup
  | [], k, _, _ => by simp
  | a :: r, k, h, hk => by
    obtain ⟨h1, h2⟩ := List.nodup_cons.mp h
    show (a :: (r ++ [k])).Nodup
    refine List.nodup_cons.mpr ⟨fun m => ?_, nd_snoc h2 fun m => hk (List.mem_cons.mpr (Or.inr m))⟩
    rcases List.mem_append.mp m with q | q
    · exact h1 q
    · exact hk (List.mem_cons.mpr (Or.inl (List.mem_singleton.mp q).symm))
theorem nd_putK {kvs : List (κ × V)} {k : κ} (v : V) (hn : (kvs.map (·.1)).Nodup) (h : valV kvs k = none) : ((putK kvs k v).map (·.1)).Nodup := by
  rw [putK_new v h, List.map_append]
  exact nd_snoc hn (valV_not h)
theorem dropK_pos {p : κ × V} {r : List (κ × V)} {k : κ} (e : p.1 = k) : dropK (p :: r) k = dropK r k := by
  unfold dropK
  rw [List.filter_cons, if_neg (by simp [e])]
theorem dropK_neg {p : κ × V} {r : List (κ × V)} {k : κ} (e : ¬ p.1 = k) : dropK (p :: r) k = p :: dropK r k := by
  unfold dropK
  rw [List.filter_cons, if_pos (by simp [e])]
theorem dropK_no : ∀ {kvs : List (κ × V)} {k : κ}, ¬ k ∈ kvs.map (·.1) → dropK kvs k = kvs
  | [], _, _ => rfl
  | p :: r, k, h => by
    have h' : ¬ k ∈ r.map (·.1) := fun m => by
      obtain ⟨q, hq, e⟩ := List.mem_map.mp m
      exact h (List.mem_map.mpr ⟨q, List.mem_cons.mpr (Or.inr hq), e⟩)
    rw [dropK_neg fun e => h (List.mem_map.mpr ⟨p, List.mem_cons.mpr (Or.inl rfl), e⟩), dropK_no h']
theorem dropK_mem {kvs : List (κ × V)} {k : κ} {p : κ × V} (h : p ∈ dropK kvs k) : p ∈ kvs := (List.mem_filter.mp h).1
theorem nd_dropK : ∀ {kvs : List (κ × V)} {k : κ}, (kvs.map (·.1)).Nodup → ((dropK kvs k).map (·.1)).Nodup
  | [], _, _ => List.nodup_nil
  | p :: r, k, h => by
    have h : (p.1 :: r.map (·.1)).Nodup := h
    obtain ⟨h1, h2⟩ := List.nodup_cons.mp h
    by_cases e : p.1 = k
    · rw [dropK_pos e]
      exact nd_dropK h2
    · rw [dropK_neg e]
      show (p.1 :: (dropK r k).map (·.1)).Nodup
      refine List.nodup_cons.mpr ⟨fun m => h1 ?_, nd_dropK h2⟩
      obtain ⟨q, hq, eq⟩ := List.mem_map.mp m
      exact List.mem_map.mpr ⟨q, dropK_mem hq, eq⟩
theorem dropK_len : ∀ {kvs : List (κ × V)} {k : κ}, (kvs.map (·.1)).Nodup → k ∈ kvs.map (·.1) → (dropK kvs k).length + 1 = kvs.length
  | [], _, _, m => by simp at m
  | p :: r, k, h, m => by
    have h : (p.1 :: r.map (·.1)).Nodup := h
    have m : k = p.1 ∨ k ∈ r.map (·.1) := List.mem_cons.mp m
    obtain ⟨h1, h2⟩ := List.nodup_cons.mp h
    by_cases e : p.1 = k
    · subst e
      rw [dropK_pos rfl, dropK_no h1]
      all_goals rfl
    · have m' : k ∈ r.map (·.1) := m.resolve_left fun z => e z.symm
      have q := dropK_len h2 m'
      rw [dropK_neg e, List.length_cons, List.length_cons]
      omega
end
end L2
set_option Elab.async false
set_option linter.all false
set_option maxRecDepth 100000
set_option maxHeartbeats 4000000
/-! COMPREHENSIONS of the hand layer: own work -/
namespace L2
open PySem PySem.Spec PyProof.Rows

/-- the context of a comprehension's block -/
def cmpCx (X : Cx) (sc : Scope) (cl : List (Str × Addr)) (C : Addr) (N : List Str) (s2 : Shared) (H2 : Hp) (fp : List Addr) : Cx :=
  { X with N := N, s₀ := s2, H₀ := H2, env := compEnvC sc cl C X.env, outer := X.stack, ex := fp, fn := fun _ => false, pn := [], xe := fun _ _ => False }

/-- the slots at a turn's start: no targets, the captured values -/
def cmpSt (n : Nat) (caps : List Nat) (σ : St) : St := List.replicate n none ++ caps.map fun j => (σ[j]?).join

/-- what the comprehension's scope must have, seen from the scope around it; caps: where the captured names stand outside -/
structure CmpScope (out : Scope) (NO : List Str) (sc : Scope) (N : List Str) (n : Nat) (caps : List Nat) : Prop where
  kind : sc.kind = .function
  nocell : ∀ y ∈ sc.names, y.2 ≠ .cell
  names : ∀ y ∈ sc.names, y.2 = .local → sc.names.lookup y.1 = some .local
  free : ∀ y ∈ sc.names, y.2 = .free → out.names.lookup y.1 = some .cell ∨ out.names.lookup y.1 = some .free
  len : N.length = n + caps.length
  nd : N.Nodup
  cap : ∀ y ∈ (N.drop n).zip caps, NO[y.2]? = some y.1 ∧ sc.names.lookup y.1 = some .free ∧ (out.names.lookup y.1 = some .cell ∨ out.names.lookup y.1 = some .free)

theorem relabel_free {env : Env} : ∀ {names : List (Str × NameKind)} {x : Str}, names.lookup x = some .free →
    (names.map fun (n, k) => if (k == NameKind.free && env.scope.kind == .function && env.kindOf n == some .cell) then (n, NameKind.cell) else (n, k)).lookup x = some .cell ∨
    (names.map fun (n, k) => if (k == NameKind.free && env.scope.kind == .function && env.kindOf n == some .cell) then (n, NameKind.cell) else (n, k)).lookup x = some .free
  | [], _, h => by simp at h
  | (n, k) :: r, x, h => by
    have ih := @relabel_free env r x
    rw [List.map_cons]
    cases hx : x == n with
    | true =>
      simp only [List.lookup_cons, hx] at h
      cases h
      by_cases hc : (NameKind.free == NameKind.free && env.scope.kind == .function && env.kindOf n == some .cell) = true
      · left
        simp only [if_pos hc, List.lookup_cons, hx]
      · right
        simp only [if_neg hc, List.lookup_cons, hx]
    | false =>
      simp only [List.lookup_cons, hx] at h
      by_cases hc : (k == NameKind.free && env.scope.kind == .function && env.kindOf n == some .cell) = true
      · simp only [if_pos hc, List.lookup_cons, hx]
        exact ih h
      · simp only [if_neg hc, List.lookup_cons, hx]
        exact ih h

/-- the closure: part of the cells at hand, and whole -/
theorem closure_of {env : Env} : ∀ (names : List (Str × NameKind)) (acc : List (Str × Addr)), (∀ y ∈ names, y.2 = .free → ∃ c, env.cells.lookup y.1 = some c) → (∀ x c, acc.lookup x = some c → env.cells.lookup x = some c) →
    ∃ cl, (forIn names acc fun (x : Str × NameKind) (cs : List (Str × Addr)) => (if x.2 == .free then do let c ← cellOf env x.1; pure (ForInStep.yield ((x.1, c) :: cs)) else pure (ForInStep.yield cs) : Sem _)) = pure cl ∧
      (∀ x c, cl.lookup x = some c → env.cells.lookup x = some c) ∧ (∀ x c, acc.lookup x = some c → ∃ c', cl.lookup x = some c') ∧ ∀ y ∈ names, y.2 = .free → ∃ c, cl.lookup y.1 = some c
  | [], acc, _, ha => ⟨acc, rfl, ha, fun x c h => ⟨c, h⟩, fun y hy => nomatch hy⟩
  | (n, k) :: r, acc, hn, ha => by
    by_cases hk : k = .free
    · subst hk
      obtain ⟨c, hc⟩ := hn (n, .free) List.mem_cons_self rfl
      have ha' : ∀ x c', ((n, c) :: acc).lookup x = some c' → env.cells.lookup x = some c' := fun x c' h => by
        rw [List.lookup_cons] at h
        cases hx : x == n with
        | true =>
          rw [hx] at h
          have e : x = n := beq_iff_eq.mp hx
          subst e
          cases h
          exact hc
        | false =>
          rw [hx] at h
          exact ha x c' h
      obtain ⟨cl, e1, e2, e3, e4⟩ := closure_of r ((n, c) :: acc) (fun y hy => hn y (List.mem_cons_of_mem _ hy)) ha'
      have here : ∃ c', cl.lookup n = some c' := e3 n c (by rw [List.lookup_cons, beq_self_eq_true])
      refine ⟨cl, ?_, e2, fun x c' h => ?_, fun y hy hf => ?_⟩
      · have z : cellOf env n = pure c := by unfold cellOf; rw [hc]
        rw [List.forIn_cons]
        simp only [beq_self_eq_true, if_true, z, pure_bind]
        exact e1
      · by_cases q : x = n
        · subst q; exact here
        · exact e3 x c' (by rw [List.lookup_cons, beq_eq_false_iff_ne.mpr q]; exact h)
      · rcases List.mem_cons.mp hy with q | q
        · subst q; exact here
        · exact e4 y q hf
    · obtain ⟨cl, e1, e2, e3, e4⟩ := closure_of r acc (fun y hy => hn y (List.mem_cons_of_mem _ hy)) ha
      refine ⟨cl, ?_, e2, e3, fun y hy hf => ?_⟩
      · have z : (k == NameKind.free) = false := beq_eq_false_iff_ne.mpr hk
        rw [List.forIn_cons]
        simp only [z, Bool.false_eq_true, if_false, pure_bind]
        exact e1
      · rcases List.mem_cons.mp hy with q | q
        · subst q; exact absurd hf hk
        · exact e4 y q hf
theorem closure_ok {X : Cx} {sc : Scope} (ok : X.Ok) (h : ∀ y ∈ sc.names, y.2 = .free → X.env.kindOf y.1 = some .cell ∨ X.env.kindOf y.1 = some .free) :
    ∃ cl, closureFor sc X.env = pure cl ∧ (∀ x c, cl.lookup x = some c → X.env.cells.lookup x = some c) ∧ ∀ y ∈ sc.names, y.2 = .free → ∃ c, cl.lookup y.1 = some c := by
  obtain ⟨cl, e1, e2, _, e4⟩ := closure_of (env := X.env) sc.names [] (fun y hy hf => ok.has y.1 (h y hy hf)) (fun x c q => by simp at q)
  refine ⟨cl, ?_, e2, e4⟩
  unfold closureFor
  rw [← bind_pure (pure cl : Sem (List (Str × Addr))), ← e1]

/-! ### tests of a comprehension -/
def PIfs (X : Cx) (ifs : List Expr) (t : TT) : Prop :=
  ∀ (pins : List (Addr × Obj)) (s : Shared) (σ : St) (H : Hp) (Q : Bool → Hp → Prop), Inv X pins σ H s → t σ H Q →
    wpAny (model X.prog X.w) X.A (forIn ifs true fun c r => if r = true then do let ok ← isTrue c X.env (eval c X.env); pure (ForInStep.yield ok) else pure (ForInStep.yield r)) (TP X pins σ Q) X.xe s
def tTrue : TT := fun _ H Q => Q true H
theorem pifs_nil {X : Cx} : PIfs X [] tTrue := fun _ _ _ H _ I h => wpAny_tests_nil ⟨H, I, h⟩
theorem pifs_one {X : Cx} {c : Expr} {t : TT} (h : PT X c t) : PIfs X [c] t := fun pins s σ H Q I hw => wpAny_tests_one (h pins s σ H Q I hw)

/-! ### the reading -/
/-- W: the invariant by the turn, a measure and what has been gathered; p: the new list -/
def CmpW (J : It) (n : Nat) (σ0 : St) (g : TG) (tc : TT) (te : TE) (p : Addr) (H1 : Hp) (Q : VK) : Prop :=
  ∃ W : Nat → Nat → List V → Hp → Prop, (∃ m, W 0 m [] (upd H1 p (.lst []))) ∧ ∀ i m acc H, W i m acc H → H p = some (.lst acc) ∧
    ((J.stop i H ∧ Q (.ref p) H) ∨ (J.go i H ∧ acc.length < sizeLine ∧ ∃ N : List V → Hp → Prop, (∀ acc' H', N acc' H' → ∃ m', m' < m ∧ W (i + 1) m' acc' H') ∧
      ∀ x H', J.yld i H x H' → g x σ0 H' fun σ2 H2 => (σ2.length = σ0.length ∧ σ2.drop n = σ0.drop n) ∧ tc σ2 H2 fun c H3 =>
        if c = true then te σ2 H3 fun y H4 => H4 p = some (.lst acc) ∧ N (acc ++ [y]) (upd H4 p (.lst (acc ++ [y]))) else N acc H3))
def tComp (n : Nat) (caps : List Nat) (wi : TI) (g : TG) (tc : TT) (te : TE) : TE := fun σ H Q => wi σ H fun J H1 => ∀ p, H1 p = none → CmpW J n (cmpSt n caps σ) g tc te p H1 Q

section
variable {X : Cx} {sc : Scope} {N : List Str} {n : Nat} {caps : List Nat} {cl : List (Str × Addr)} {tg iter elt : Expr} {ifs : List Expr} {pos : Pos} {g : TG} {tc : TT} {te : TE} {pins : List (Addr × Obj)} {s2 : Shared} {σ : St} {H2 : Hp}

theorem cmpSt_len (S : CmpScope X.env.scope X.N sc N n caps) : (cmpSt n caps σ).length = N.length := by
  unfold cmpSt
  rw [List.length_append, List.length_replicate, List.length_map, S.len]

theorem cmp_ok {C : Addr} {fp : List Addr} {tn : Nat → Heap → Prop} {J : It} {it : Addr} (S : CmpScope X.env.scope X.N sc N n caps) (I2 : Inv X pins σ H2 s2) (T : Turn X.prog X.w X.K tg J fp it tn) (st : tn 0 s2.heap) (hf : ∀ b ∈ fp, FpOk X pins H2 b)
    (hsub : ∀ x c, cl.lookup x = some c → X.env.cells.lookup x = some c) (hall : ∀ y ∈ sc.names, y.2 = .free → ∃ c, cl.lookup y.1 = some c) (hC : s2.heap.objs.size ≤ C) : (cmpCx X sc cl C N s2 H2 fp).Ok where
  mod := I2.ok.mod
  kind := S.kind
  glob := I2.ok.glob
  blt := I2.ok.blt
  above := hC
  inj := fun x y c h1 h2 => I2.ok.inj x y c (hsub x c h1) (hsub y c h2)
  has := fun x hk => by
    have key : ∀ names : List (Str × NameKind), (∀ y ∈ names, y ∈ sc.names) → ((names.map fun (n, k) => if (k == NameKind.free && X.env.scope.kind == .function && X.env.kindOf n == some .cell) then (n, NameKind.cell) else (n, k)).lookup x = some .cell ∨
        (names.map fun (n, k) => if (k == NameKind.free && X.env.scope.kind == .function && X.env.kindOf n == some .cell) then (n, NameKind.cell) else (n, k)).lookup x = some .free) → ∃ c, cl.lookup x = some c := by
      intro names
      induction names with
      | nil => intro _ h; simp at h
      | cons y r ih =>
        obtain ⟨m, k⟩ := y
        intro hm h
        rw [List.map_cons] at h
        by_cases hc : (k == NameKind.free && X.env.scope.kind == .function && X.env.kindOf m == some .cell) = true
        · have hkf : k = .free := by
            rw [Bool.and_eq_true, Bool.and_eq_true] at hc
            exact beq_iff_eq.mp hc.1.1
          simp only [if_pos hc, List.lookup_cons] at h
          cases hx : x == m with
          | true =>
            have e : x = m := beq_iff_eq.mp hx
            subst e
            exact hall (x, k) (hm _ List.mem_cons_self) hkf
          | false =>
            rw [hx] at h
            exact ih (fun z hz => hm z (List.mem_cons_of_mem _ hz)) h
        · simp only [if_neg hc, List.lookup_cons] at h
          cases hx : x == m with
          | true =>
            have e : x = m := beq_iff_eq.mp hx
            subst e
            rw [hx] at h
            rcases h with h | h
            · have hk' : k = .cell := Option.some.inj h
              exact absurd hk' (S.nocell (x, k) (hm _ List.mem_cons_self))
            · have hk' : k = .free := Option.some.inj h
              exact hall (x, k) (hm _ List.mem_cons_self) hk'
          | false =>
            rw [hx] at h
            exact ih (fun z hz => hm z (List.mem_cons_of_mem _ hz)) h
    exact key sc.names (fun _ h => h) hk
  cab := fun x c h => Bool.noConfusion (show false = true from h)
  hd := I2.ok.hd
  frames := I2.ok.frames
  stk := .inl rfl
  exf := fun b hb => ⟨by
    obtain ⟨o, e, _⟩ := T.obj _ _ st b hb
    exact Nat.ne_of_lt (Nat.lt_of_lt_of_le (Heap.lt_size e) hC), fun x c h => (hf b hb).2.2.2.2.1 x c (hsub x c h)⟩
  bs := fun b o e => I2.bs b o e
  bsz := Nat.le_trans I2.ok.bsz I2.sz
  noex := fun b o e hb => by
    rcases (hf b hb).2.2.2.1 with z | z
    · exact I2.ok.noex b o e z
    · exact absurd (Nat.lt_of_lt_of_le (Heap.lt_size e) (Nat.le_trans I2.ok.bsz z)) (Nat.lt_irrefl _)
  exfs := fun b hb z => by
    rcases List.mem_cons.mp (I2.stkSub b z) with q | q
    · exact (hf b hb).2.1 q
    · exact (hf b hb).2.2.1 q
  funs := I2.stack
  frf := fun b hb => I2.stkFree b hb

theorem cmp_inv {C p : Addr} {fp : List Addr} {h1 : Heap} {tk : Nat} (S : CmpScope X.env.scope X.N sc N n caps) (I2 : Inv X pins σ H2 s2) (ok : (cmpCx X sc cl C N s2 H2 fp).Ok)
    (hsub : ∀ x c, cl.lookup x = some c → X.env.cells.lookup x = some c) (hall : ∀ y ∈ sc.names, y.2 = .free → ∃ c, cl.lookup y.1 = some c)
    (keep : ∀ b o, s2.heap.get? b = some o → h1.get? b = some o) (hp : p = s2.heap.objs.size) (hnew : h1.get? p = some { cls := .type "list", data := .seq #[] 0 }) (hn : h1.Ns C fun _ => none) (hC : s2.heap.objs.size < C) :
    Inv (cmpCx X sc cl C N s2 H2 fp) [] (cmpSt n caps σ) (upd H2 p (.lst [])) { s2 with heap := h1, toks := tk } := by
  have hfresh : H2 p = none := by rw [hp]; exact I2.hok.fresh (Nat.le_refl _)
  have new : ObjOk X.prog X.w (upd H2 p (.lst [])) h1 p (.lst []) := ⟨Nat.zero_le _, [], 0, .nil, hnew⟩
  have hcell : ∀ x c, cl.lookup x = some c → ∃ v, s2.heap.IsCell c v ∧ H2 c = none := fun x c h => by
    obtain ⟨v, q⟩ := I2.cell x c (hsub x c h)
    exact ⟨v, q, I2.freeC x c (hsub x c h)⟩
  have neP : ∀ b, b < s2.heap.objs.size → b ≠ p := fun b hb => by rw [hp]; exact Nat.ne_of_lt hb
  refine ⟨ok, rfl, I2.bare, Un.laid keep (by rw [hp]; exact Nat.le_refl _) hfresh, ⟨_, hn, fun i x v e1 e2 e3 => ?_⟩, fun x c h => ?_, ?_, fun x c h => ?_, fun q hq => ?_, I2.hok.laid keep (by rw [hp]; exact Nat.le_refl _) new, cmpSt_len S⟩
  · have hi : n ≤ i := by
      by_cases q : i < n
      · unfold cmpSt at e2
        rw [List.getElem?_append_left (by rw [List.length_replicate]; exact q), List.getElem?_replicate, if_pos q] at e2
        cases e2
      · omega
    unfold cmpSt at e2
    rw [List.getElem?_append_right (by rw [List.length_replicate]; exact hi), List.length_replicate, List.getElem?_map] at e2
    cases ej : caps[i - n]? with
    | none => rw [ej] at e2; cases e2
    | some j =>
      rw [ej] at e2
      have e2' : (σ[j]?).join = some v := Option.some.inj e2
      have ex : (N.drop n)[i - n]? = some x := by
        rw [List.getElem?_drop, show n + (i - n) = i by omega]
        exact e1
      have hm : (x, j) ∈ (N.drop n).zip caps := by
        refine List.mem_of_getElem? (i := i - n) ?_
        rw [List.getElem?_zip_eq_some]
        exact ⟨ex, ej⟩
      obtain ⟨c1, c2, c3⟩ := S.cap (x, j) hm
      have e2'' : σ[j]? = some (some v) := by
        cases q : σ[j]? with
        | none => rw [q] at e2'; cases e2'
        | some z => rw [q] at e2'; exact congrArg some e2'
      obtain ⟨m, _, hl⟩ := I2.loc
      have vis : Vis X.env.scope x := by
        rcases c3 with c3 | c3
        · exact .inr (.inl c3)
        · exact .inr (.inr c3)
      obtain ⟨u, ru, l⟩ := hl j x v c1 e2'' vis
      refine ⟨u, ru, ?_⟩
      rcases l with ⟨k, _⟩ | ⟨_, c, hc, hcc⟩
      · rcases c3 with c3 | c3
        · have z := Option.some.inj (k.symm.trans c3)
          cases z
        · have z := Option.some.inj (k.symm.trans c3)
          cases z
      · have hx : ∃ k, (x, k) ∈ sc.names ∧ k = .free := ⟨.free, PySem.mem_of_lookup c2, rfl⟩
        obtain ⟨k, hk1, hk2⟩ := hx
        obtain ⟨c', hc'⟩ := hall (x, k) hk1 hk2
        have ecc : c' = c := Option.some.inj ((hsub x c' hc').symm.trans hc)
        subst ecc
        obtain ⟨o, ho, hd⟩ := hcc
        exact .inr ⟨relabel_free c2, c', hc', o, keep _ o ho, hd⟩
  · obtain ⟨v, ⟨o, ho, hd⟩, _⟩ := hcell x c h
    exact ⟨v, o, keep _ o ho, hd⟩
  · show upd H2 p (.lst []) C = none
    rw [upd_ne (by rw [hp]; exact Nat.ne_of_gt hC)]
    exact I2.hok.fresh (Nat.le_of_lt hC)
  · obtain ⟨v, q, hn'⟩ := hcell x c h
    show upd H2 p (.lst []) c = none
    rw [upd_ne (neP c q.lt)]
    exact hn'
  · exact absurd (show q ∈ ([] : List (Addr × Obj)) from hq) (by simp)

/-- what is told behind the block of the abstract heap H: F H (a dict that was held still is let go) -/
structure CmpOut (X : Cx) (fp : List Addr) (s2 : Shared) (H2 Hf : Hp) (F : Hp → Hp) : Prop where
  out : ∀ (H : Hp) (s : Shared), Un (frs X.stack) fp Hf H s2.heap s.heap → HOk X.prog X.w H s.heap → Un (frs X.stack) fp H2 (F H) s2.heap s.heap ∧ HOk X.prog X.w (F H) s.heap
  new : ∀ (H : Hp) (b : Addr), s2.heap.objs.size ≤ b → H b = none → F H b = none
theorem CmpOut.same {fp : List Addr} : CmpOut X fp s2 H2 H2 id := ⟨fun _ _ u k => ⟨u, k⟩, fun _ _ _ h => h⟩
/-- behind the block: the outer state -/
theorem cmp_out {C : Addr} {fp : List Addr} {σ' : St} {H Hf : Hp} {F : Hp → Hp} {s : Shared} {ps : List (Addr × Obj)} (I2 : Inv X pins σ H2 s2) (O : CmpOut X fp s2 H2 Hf F) (hf : ∀ b ∈ fp, FpOk X pins Hf b)
    (I : Inv (cmpCx X sc cl C N s2 Hf fp) ps σ' H s) : Inv X pins σ (F H) s :=
  I2.call' (ch := fp) I.os (O.out H s I.base I.hok).1 (O.out H s I.base I.hok).2 I.bare fun b hb => ⟨(hf b hb).2.2.2.1, (hf b hb).2.1, (hf b hb).2.2.2.2.1, (hf b hb).2.2.2.2.2⟩

theorem comp_core {fp : List Addr} {tn : Nat → Heap → Prop} {J : It} {it : Addr} {Q : VK} {E : Value → Shared → Prop} {RR : Value → Addr → Result → Shared → Prop} {H0 : Hp} {F : Hp → Hp} (hc : X.calm = true) (S : CmpScope X.env.scope X.N sc N n caps) (I0' : Inv X pins σ H0 s2)
    (I2 : Inv X pins σ H2 s2) (O : CmpOut X fp s2 H0 H2 F) (T : Turn X.prog X.w X.K tg J fp it tn) (st : tn 0 s2.heap) (hf : ∀ b ∈ fp, FpOk X pins H2 b)
    (hsub : ∀ x c, cl.lookup x = some c → X.env.cells.lookup x = some c) (hall : ∀ y ∈ sc.names, y.2 = .free → ∃ c, cl.lookup y.1 = some c)
    (hg : ∀ cl C s2 H2 fp, PG (cmpCx X sc cl C N s2 H2 fp) tg g) (ht : ∀ cl C s2 H2 fp, PIfs (cmpCx X sc cl C N s2 H2 fp) ifs tc) (he : ∀ cl C s2 H2 fp, PE (cmpCx X sc cl C N s2 H2 fp) elt te)
    (hW : ∀ p, H2 p = none → CmpW J n (cmpSt n caps σ) g tc te p H2 (fun v H => Q v (F H)))
    (hR : ∀ p C H s, Inv X pins σ H s → (∃ m, s.heap.Ns C m) → s2.heap.objs.size < C → H C = none → Q (.ref p) H → RR (.ref p) C (.ok .next) s) :
    wpAny (model X.prog X.w) X.A (newList []) (fun acc s3 => wpAny (model X.prog X.w) X.A (newFunctionEnv sc X.env.globals cl [] X.env.qual none .none (some X.env)) (fun cenv s4 =>
      codeAny (model X.prog X.w) X.A (.compStart (.ListComp elt [⟨tg, iter, ifs, 0⟩] sc pos) 0 (.ref it) acc { cenv with scope := relabel sc X.env }) (RR acc cenv.locals) s4) E s3) E s2 := by
  refine wpAny_newObj_type (wpAny_newFunctionEnv S.nocell (fun y hy => by simp at hy) (fun h1 hn1 hb1 => ?_) S.kind)
  dsimp only at hn1 hb1 ⊢
  generalize hH : s2.heap.push { cls := .type "list", dict := none, data := .seq ([] : List Value).toArray } = h0 at hn1 hb1 ⊢
  have hC : h0.objs.size = s2.heap.objs.size + 1 := by rw [← hH, Heap.size_push]
  have hlt : s2.heap.objs.size < h0.objs.size := by rw [hC]; exact Nat.lt_succ_self _
  have keep1 : ∀ b o, s2.heap.get? b = some o → h1.get? b = some o := fun b o e =>
    hb1.extBut b o (Nat.ne_of_lt (Nat.lt_trans (Heap.lt_size e) hlt)) (Heap.get?_push_of_some _ (hH ▸ Heap.get?_push_of_some _ e))
  have hnew : h1.get? s2.heap.objs.size = some { cls := .type "list", data := .seq #[] 0 } := hb1.extBut _ _ (Nat.ne_of_lt hlt) (Heap.get?_push_of_some _ (hH ▸ Heap.get?_push_size _ rfl))
  have ok := cmp_ok (C := h0.objs.size) (N := N) S I2 T st hf hsub hall (Nat.le_of_lt hlt)
  have hfresh : H2 s2.heap.objs.size = none := I2.hok.fresh (Nat.le_refl _)
  obtain ⟨W, ⟨m0, w0⟩, turn⟩ := hW _ hfresh
  have I0 := cmp_inv (tk := s2.toks + ([] : List (Str × Value)).length) S I2 ok hsub hall keep1 rfl hnew hn1 hlt
  have fp0 : ∀ b ∈ fp, upd H2 s2.heap.objs.size (.lst []) b = none := fun b hb => by
    obtain ⟨o, e, _⟩ := T.obj _ _ st b hb
    rw [upd_ne (Nat.ne_of_lt (Heap.lt_size e))]
    exact (hf b hb).1
  have st1 : tn 0 h1 := T.keep _ _ _ st fun b _ o e => keep1 b o e
  have fpk : ∀ {H : Hp}, (∀ b ∈ fp, H b = none) → ∀ b ∈ fp, FpOk (cmpCx X sc cl h0.objs.size N s2 H2 fp) [] H b := fun h b hb =>
    ⟨h b hb, (ok.exf b hb).1, ok.exfs b hb, .inl hb, (ok.exf b hb).2, fun p hp => absurd (show p ∈ ([] : List (Addr × Obj)) from hp) (by simp)⟩
  have loop : ∀ s3 : Shared, s3 = { s2 with heap := h1, toks := s2.toks + ([] : List (Str × Value)).length } →
      codeAny (model X.prog X.w) X.A (.compLoop (.ListComp elt [⟨tg, iter, ifs, 0⟩] sc pos) 0 (.ref it) (.ref s2.heap.objs.size) (compEnvC sc cl h0.objs.size X.env)) (RR (.ref s2.heap.objs.size) h0.objs.size) s3 := by
    rintro s3 rfl
    refine codeAny_loop rfl (fun k s' => ∃ i acc H', Inv (cmpCx X sc cl h0.objs.size N s2 H2 fp) [] (cmpSt n caps σ) H' s' ∧ tn i s'.heap ∧ (∀ b ∈ fp, H' b = none) ∧ W i k acc H') ?_ m0 ⟨0, [], _, I0, st1, fp0, w0⟩
    rintro k s4 ⟨i, acc, H4, I4, st4, fr4, w4⟩
    show wpAny _ X.A ((compTurn (.ListComp elt [⟨tg, iter, ifs, 0⟩] sc pos) 0 (.ref it) (.ref s2.heap.objs.size) (compEnvC sc cl h0.objs.size X.env)).onRaise (fun x => do noteFrame x (compEnvC sc cl h0.objs.size X.env); theTreesLotGoes x)) _ _ s4
    refine wpAny_noted ?_
    rw [compTurn_list]
    obtain ⟨hp4, alt⟩ := turn i k acc H4 w4
    rcases alt with ⟨stop, q⟩ | ⟨go, hlen, NN, hN, step⟩
    · refine wpAny_bind (wpAny_standAt (wpAny_bind (thn (T.done (cmpCx X sc cl h0.objs.size N s2 H2 fp) rfl rfl rfl hc i [] s4 _ H4 _ I4 (fpk fr4) st4 stop) fun r s5 ⟨hr, I5⟩ => ?_)))
      subst hr
      obtain ⟨m5, hn5, _⟩ := id I5.loc
      exact wpAny_pure (hR _ _ (F H4) s5 (cmp_out I0' O hf I5) ⟨m5, hn5⟩ hlt (O.new H4 _ (Nat.le_of_lt hlt) I5.free) q)
    · refine wpAny_bind (wpAny_standAt (wpAny_bind (thn (T.item (cmpCx X sc cl h0.objs.size N s2 H2 fp) rfl rfl rfl hc i [] s4 _ H4 _ I4 (fpk fr4) st4 go) fun r s5 ⟨u, hr, h5⟩ => ?_)))
      subst hr
      refine wpAny_bind (thn h5 fun _ s6 ⟨x, H6, I6, r6, y6, st6, fr6⟩ => ?_)
      have I6' := I6.pinned (fpk fr6) (T.obj _ _ st6)
      have back : ∀ {ss : Shared} {HH : Hp} {σσ : St}, Inv (cmpCx X sc cl h0.objs.size N s2 H2 fp) ([] ++ pinsAt fp s6.heap) σσ HH ss → σσ.length = (cmpSt n caps σ).length → σσ.drop n = (cmpSt n caps σ).drop n →
          Inv (cmpCx X sc cl h0.objs.size N s2 H2 fp) [] (cmpSt n caps σ) HH ss ∧ tn (i + 1) ss.heap ∧ ∀ b ∈ fp, HH b = none := fun {ss HH σσ} J e1 e2 => by
        refine ⟨J.unpinned.weak e1.symm fun j v hj => ?_, T.keep _ _ _ st6 fun b hb o e => (J.pin (b, o) (List.mem_append_right _ (List.mem_append_right _ (mem_pinsAt hb e)))).1, fun b hb => ?_⟩
        · by_cases hjn : j < n
          · unfold cmpSt at hj
            rw [List.getElem?_append_left (by rw [List.length_replicate]; exact hjn), List.getElem?_replicate, if_pos hjn] at hj
            cases hj
          · have a : σσ[j]? = (σσ.drop n)[j - n]? := by rw [List.getElem?_drop, show n + (j - n) = j by omega]
            have b : (cmpSt n caps σ)[j]? = ((cmpSt n caps σ).drop n)[j - n]? := by rw [List.getElem?_drop, show n + (j - n) = j by omega]
            rw [a, e2, ← b]
            exact hj
        · obtain ⟨o, e, d⟩ := T.obj _ _ st6 b hb
          exact (J.pin (b, o) (List.mem_append_right _ (List.mem_append_right _ (mem_pinsAt hb e)))).2.1
      refine wpAny_bind (wpAny_mono (hg _ _ _ _ _ _ s6 _ H6 x u _ I6' r6 (step x H6 y6)) (fun _ s7 ⟨σ7, H7, I7, ⟨l7, d7⟩, q7⟩ => ?_) fun _ _ z => z.elim)
      refine wpAny_bind (wpAny_mono (ht _ _ _ _ _ _ s7 σ7 H7 _ I7 q7) (fun ok8 s8 ⟨H8, I8, q8⟩ => ?_) fun _ _ z => z.elim)
      cases ok8 with
      | false =>
        rw [if_neg Bool.false_ne_true] at q8
        obtain ⟨m', hm, w8⟩ := hN _ _ q8
        obtain ⟨b1, b2, b3⟩ := back I8 l7 d7
        exact wpAny_pure ⟨rfl, m', hm, i + 1, _, _, b1, b2, b3, w8⟩
      | true =>
        rw [if_pos rfl] at q8
        refine wpAny_bind (wpAny_bind (wpAny_mono (he _ _ _ _ _ _ s8 σ7 H8 _ I8 q8) (fun y s9 ⟨v9, H9, I9, r9, p9, q9⟩ => ?_) fun _ _ z => z.elim))
        refine wpAny_bind (wpAny_mono (mt_append (X := cmpCx X sc cl h0.objs.size N s2 H2 fp) _ s9 σ7 H9 (.ref s2.heap.objs.size) [v9] (.ref s2.heap.objs.size) [y] (fun _ HH => NN (acc ++ [v9]) HH) I9 rfl (.cons r9 .nil) ⟨_, acc, v9, rfl, rfl, p9, hlen, q9⟩) (fun _ s10 ⟨_, H10, I10, _, q10⟩ => ?_) fun _ _ z => z.elim)
        obtain ⟨m', hm, w10⟩ := hN _ _ q10
        obtain ⟨b1, b2, b3⟩ := back I10 l7 d7
        exact wpAny_pure (wpAny_pure ⟨rfl, m', hm, i + 1, _, _, b1, b2, b3, w10⟩)
  exact codeAny_compStart_list (loop _ rfl) (T.self _ 0 _ _ _ st1 (loop _ rfl))

/-- [elt for tg in iter if ..] as a value -/
theorem pe_comp {wi : TI} (hc : X.calm = true) (S : CmpScope X.env.scope X.N sc N n caps) (hi : PI X tg iter wi) (hg : ∀ cl C s2 H2 fp, PG (cmpCx X sc cl C N s2 H2 fp) tg g) (ht : ∀ cl C s2 H2 fp, PIfs (cmpCx X sc cl C N s2 H2 fp) ifs tc)
    (he : ∀ cl C s2 H2 fp, PE (cmpCx X sc cl C N s2 H2 fp) elt te) (hs : ∀ x, foldedSetIterable iter X.env x = pure x := by intro _; rfl) : PE X (.ListComp elt [⟨tg, iter, ifs, 0⟩] sc pos) (tComp n caps wi g tc te) := by
  intro pins s σ H Q I h
  obtain ⟨cl, hcl, hsub, hall⟩ := closure_ok I.ok S.free
  rw [eval_ListComp]
  refine wpAny_comprehension_free (use := none) rfl hs hcl S.kind S.names (thn (hi pins s σ H _ I h) fun v s1 h1 => thn h1 fun itv s2 h2 => ?_)
  obtain ⟨it, fp, tn, J, H2, e, I2, T, st2, f2, hW⟩ := h2
  subst e
  refine comp_core (RR := fun acc C => compPost (model X.prog X.w) X.A X.xe none (EP X pins σ Q) acc C) hc S I2 I2 CmpOut.same T st2 f2 hsub hall hg ht he hW ?_
  intro p C H3 s3 I3 ⟨m, hn⟩ hC hfr q
  refine ⟨m, hn, fun h' hb => ⟨.ref p, H3, ?_, rfl, q⟩⟩
  obtain ⟨f0, f1, f2', f3, f4, f5⟩ := I2.fpOk (H' := H3) (Nat.le_of_lt hC) hfr
  exact I3.turned (t' := s3.toks) (fun b o hne e => (hb.2 b hne).trans e) f0 f1 f3 f4 f5

/-- x = [elt for tg in iter if ..] where the stores are exchanged -/
theorem ps_setC {wi : TI} {i : Nat} {x : Str} {px spos : Pos} (hc : X.calm = true) (S : CmpScope X.env.scope X.N sc N n caps) (hi : PI X tg iter wi) (hg : ∀ cl C s2 H2 fp, PG (cmpCx X sc cl C N s2 H2 fp) tg g)
    (ht : ∀ cl C s2 H2 fp, PIfs (cmpCx X sc cl C N s2 H2 fp) ifs tc) (he : ∀ cl C s2 H2 fp, PE (cmpCx X sc cl C N s2 H2 fp) elt te) (hN : X.N.Nodup) (hx : X.N[i]? = some x) (hl : X.env.scope.names.lookup x = some .local)
    (hsw : swapsWith (.ListComp elt [⟨tg, iter, ifs, 0⟩] sc pos) (some (.Name x px)) spos.line X.env = pure true := by rfl)
    (hs : ∀ x, foldedSetIterable iter X.env x = pure x := by intro _; rfl) : PS X (.Assign [.Name x px] (.ListComp elt [⟨tg, iter, ifs, 0⟩] sc pos) spos) (tAsg (tComp n caps wi g tc te) (gName i)) := by
  intro pins s σ H D I h
  obtain ⟨cl, hcl, hsub, hall⟩ := closure_ok I.ok S.free
  rw [exec_Assign_Name_used _ _ _ _ hsw]
  refine wpAny_bind (wpAny_standAt (wpAny_bind ?_))
  show wpAny _ X.A (do let _ ← comprehension (.ListComp elt [⟨tg, iter, ifs, 0⟩] sc pos) sc X.env _ (newList []) false (eval iter X.env) (some (assign (.Name x px) X.env))) _ _ s
  refine wpAny_bind (thn (wpAny_comprehension_free (use := some (assign (.Name x px) X.env)) (Q := fun _ s' => SP X pins D .next s') rfl hs hcl S.kind S.names
    (thn (hi pins s σ H _ I h) fun v s1 h1 => thn h1 fun itv s2 h2 => ?_)) fun _ s' hq => wpAny_pure (wpAny_pure hq))
  obtain ⟨it, fp, tn, J, H2, e, I2, T, st2, f2, hW⟩ := h2
  subst e
  refine comp_core (RR := fun acc C => compPost (model X.prog X.w) X.A X.xe (some (assign (.Name x px) X.env)) (fun _ s' => SP X pins D .next s') acc C) hc S I2 I2 CmpOut.same T st2 f2 hsub hall hg ht he hW ?_
  intro p C H3 s3 I3 ⟨m, hn⟩ hC hfr q
  obtain ⟨f0, f1, f2', f3, f4, f5⟩ := I2.fpOk (H' := H3) (Nat.le_of_lt hC) hfr
  show wpAny _ X.A (assign (.Name x px) X.env (.ref p)) _ _ s3
  refine wpAny_assign_Name (store_ok2 I3 hN hx (.inl hl) (v := .ref p) (u := .ref p) rfl (fun s4 I4 ⟨a, hb, ha⟩ => ?_) (.inr hl))
  have hCa : C ≠ a := by
    rcases ha with z | z
    · rw [z]; exact f1
    · exact fun w => f4 x a z w.symm
  refine ⟨m, hn.sameBut hb hCa, fun h' hb' => ?_⟩
  exact ⟨_, H3, I4.turned (t' := s4.toks) (fun b o hne e => (hb'.2 b hne).trans e) f0 f1 f3 f4 f5, q⟩
end
end L2
set_option Elab.async false
set_option linter.all false
set_option maxRecDepth 100000
set_option maxHeartbeats 4000000
/-! FURTHER RULES of the hand layer: own work -/
namespace HT
open PySem PyProof.Rows

/-- t <= u of tuples of ints -/
def lexLe : List Int → List Int → Bool
  | [], [] => true
  | [], _ :: _ => true
  | _ :: _, [] => false
  | x :: xs, y :: ys => if x = y then lexLe xs ys else decide (x ≤ y)
theorem lexLe_cons (x y : Int) (xs ys : List Int) : lexLe (x :: xs) (y :: ys) = if x = y then lexLe xs ys else decide (x ≤ y) := rfl
theorem rcLe_int (A : Around) (s : Shared) (a : Int) (t : Tok) (c : Int) (u : Tok) (prog : Program) (w : World) (E : Value → Shared → Prop) (Q : Value → Shared → Prop) (h : Q (.bool (decide (a ≤ c))) s) :
    wpAny (model prog w) A (richCompare .LtE (.int a t) (.int c u)) Q E s :=
  (PyProof.Rows.le_int h : wpAny (model prog w) A (compareOp .LtE (.int a t) (.int c u)) Q E s)

section
open PySem.SeqAt
open PySem.AutoSeq1 (wpAny_loadPart')
open PySem.MeetsSeq PySem.MeetsSeq2 PySem.MeetsSeq3

theorem tuple_le_ints (l b : Addr) (items items2 : Array Value) (n n2 : Nat) (dd dd2 : Option Addr) (sl sl2 : Array (Option Value)) (ns ms : List Int) (hi : IntsAre items.toList ns) (hj : IntsAre items2.toList ms) :
    Meets (Builtin.«tuple.__le__» ⟨[.ref l, .ref b], []⟩)
      (fun _ R s => s.heap.get? l = some { cls := .type "tuple", dict := dd, data := .seq items n, slots := sl } ∧ s.heap.get? b = some { cls := .type "tuple", dict := dd2, data := .seq items2 n2, slots := sl2 } ∧
        R (.ok (.ret (.bool (lexLe ns ms)))) s) :=
  .of_wp fun prog w A R s h => by
    obtain ⟨hp, g, d, tk, os⟩ := s; obtain ⟨hl, hb, h⟩ := h
    have f2 := AutoSeq1.sub_tuple_tuple
    have z1 : items.size = ns.length := by rw [← hi.length]; simp
    have z2 : items2.size = ms.length := by rw [← hj.length]; simp
    wp_walk using wpAny_loadPart' hl, wpAny_loadPart' hb, wpAny_forIn_list _ (fun rest b s' => b.1 = none ∧ s' = ⟨hp, g, d, tk, os⟩ ∧ ∃ (vs ws : List Value) (ns' ms' : List Int), rest = vs.zip ws ∧
      IntsAre vs ns' ∧ IntsAre ws ms' ∧ ns'.length + items2.size = ms'.length + items.size ∧ R (.ok (.ret (.bool (lexLe ns' ms')))) ⟨hp, g, d, tk, os⟩) _
    case turn =>
      rintro ⟨y, x⟩ rest b s' ⟨hb', rfl, vs, ws, ns', ms', hz, hvi, hwi, hlen, hR⟩
      cases hvi with
      | nil => rw [List.zip_nil_left] at hz; cases hz
      | cons a t hvi' =>
        cases hwi with
        | nil => rw [List.zip_nil_right] at hz; cases hz
        | cons c u hwi' =>
          rw [List.zip_cons_cons] at hz
          injection hz with hyx hrest
          injection hyx with hy hx
          subst hy hx
          rw [lexLe_cons] at hR
          simp only [List.length_cons] at hlen
          obtain ⟨e, he, hiff⟩ := eqAt_int A.in1 ⟨hp, g, d, tk, os⟩ a t c u
          refine wpAny_bind (he prog w _ _ ?_)
          cases e with
          | true =>
            rw [if_pos (hiff.mp rfl)] at hR
            wp_walk
            exact ⟨rfl, rfl, _, _, _, _, hrest, hvi', hwi', by omega, hR⟩
          | false =>
            rw [if_neg (fun q => absurd (hiff.mpr q) Bool.false_ne_true)] at hR
            have hri := rcLe_int A.in1 ⟨hp, g, d, tk, os⟩ a t c u prog w
            wp_walk using hri
            exact ⟨_, rfl, by simpa using hR⟩
    case fin =>
      rintro ⟨b1, b2⟩ s' ⟨hb', rfl, vs, ws, ns', ms', hz, hvi, hwi, hlen, hR⟩
      simp only at hb'
      subst hb'
      have hv : lexLe ns' ms' = decide (items.size ≤ items2.size) := by
        cases hvi with
        | nil =>
          cases hwi with
          | nil =>
            simp only [List.length_nil] at hlen
            exact (decide_eq_true (by omega)).symm
          | cons c u hw =>
            simp only [List.length_nil, List.length_cons] at hlen
            exact (decide_eq_true (by omega)).symm
        | cons a t hv =>
          cases hwi with
          | nil =>
            simp only [List.length_nil, List.length_cons] at hlen
            exact (decide_eq_false (by omega)).symm
          | cons c u hw =>
            rw [List.zip_cons_cons] at hz
            cases hz
      rw [hv] at hR
      wp_walk
      exact ⟨_, rfl, by simpa [Builtin.Tuple.tupleCompareSizes] using hR⟩
    case h =>
      exact ⟨rfl, rfl, items.toList, items2.toList, ns, ms, rfl, hi, hj, by omega, h⟩
end

section
variable {prog : Program} {w : World} {A : Around} {E : Value → Shared → Prop} {s : Shared}
theorem le_tupInts {l b : Addr} {items items2 : Array Value} {ns ms : List Int} {Q : Value → Shared → Prop} (hl : IsTup s.heap l items) (hb : IsTup s.heap b items2) (hi : IntsAre items.toList ns) (hj : IntsAre items2.toList ms)
    (hu : A.units < cLine) (h : Q (.bool (lexLe ns ms)) s) : wpAny (model prog w) A (compareOp .LtE (.ref l) (.ref b)) Q E s := by
  obtain ⟨⟨cls, dd, data, sl⟩, ho, hc, n, hd⟩ := id hl
  obtain ⟨⟨cls2, dd2, data2, sl2⟩, ho2, hc2, n2, hd2⟩ := id hb
  simp only at hc hd hc2 hd2
  subst hc hd hc2 hd2
  exact richCompare_meets_room (op := .LtE) ⟨_, ho, rfl⟩ ⟨_, ho2, rfl⟩ PySem.F.slot_tuple_le PySem.F.entry_tuple_le (PySem.F.args_tuple_le_2 _ _) (tuple_le_ints l b items items2 n n2 dd dd2 sl sl2 ns ms hi hj)
    ⟨ho, ho2, show Value.bool (lexLe ns ms) ≠ Value.notImplemented ∧ Q (.bool (lexLe ns ms)) s from ⟨(fun x => nomatch x), h⟩⟩ hu
end
end HT

namespace L2
open PySem PySem.Spec PyProof.Rows
section
variable {X : Cx}

/-- t <= u, tuples of ints -/
def rLeT (K : PySem.W.Frag) : R2 := fun x y H Q => ∃ a b ns ms, x = .ref a ∧ y = .ref b ∧ SqT K H a (ns.map V.int) ∧ SqT K H b (ms.map V.int) ∧ Q (.bl (HT.lexLe ns ms)) H
theorem op_leT (hu : X.A.units < cLine) : OpR X (compareOp .LtE) (rLeT X.K) := by
  intro pins s σ H x y v u Q I rx ry h
  obtain ⟨a, b, ns, ms, rfl, rfl, ha, hb, q⟩ := h
  cases rx
  cases ry
  obtain ⟨its, r1, p1, _⟩ := I.tuple ha
  obtain ⟨its2, r2, p2, _⟩ := I.tuple hb
  have i1 : IntsAre its.toArray.toList ns := intsAre_of r1
  have i2 : IntsAre its2.toArray.toList ms := intsAre_of r2
  exact HT.le_tupInts p1 p2 i1 i2 hu ⟨.bl (HT.lexLe ns ms), H, I, rfl, q⟩

/-! ### min, max of a pair of ints -/
def rMin2 (K : PySem.W.Frag) : List V → Hp → VK → Prop := fun xs H Q => ∃ p i j, xs = [.ref p] ∧ SqT K H p [.int i, .int j] ∧ Q (.int (if j < i then j else i)) H
def rMax2 (K : PySem.W.Frag) : List V → Hp → VK → Prop := fun xs H Q => ∃ p i j, xs = [.ref p] ∧ SqT K H p [.int i, .int j] ∧ Q (.int (if j > i then j else i)) H
theorem pairVal {i j : Int} {t1 t2 : Tok} : ∀ (k : Nat) (v : Value), #[Value.int i t1, Value.int j t2][k]? = some v → ∃ t, v = Value.int (if k = 0 then i else j) t := by
  intro k v h
  match k, h with
  | 0, h => simp at h; exact ⟨t1, h.symm⟩
  | 1, h => simp at h; exact ⟨t2, h.symm⟩
  | (k + 2), h => simp at h
theorem call_minT (hc : X.calm = true) : CallR X (.builtin "min") (rMin2 X.K) := by
  intro pins s σ H xs us Q I r h
  obtain ⟨p, i, j, rfl, hq, q⟩ := h
  obtain ⟨u, rfl, ru⟩ := vals1 r
  cases ru
  obtain ⟨its, rv, pl, hz⟩ := I.tuple hq
  obtain ⟨u1, u2, rfl, ⟨t1, rfl⟩, ⟨t2, rfl⟩⟩ := vals2 rv
  have hlt : p < s.heap.objs.size := by obtain ⟨_, e, _⟩ := id pl; exact Heap.lt_size e
  have pl' : s.heap.IsTuple p #[Value.int i t1, Value.int j t2] := pl
  refine call_min_walk (wpAny_pyIter_tuple pl' ⟨_, _, _, _, _, _, _, rfl, Walks.tuple (A := X.A.in1) (I.ok.hd hc) _ p (Nat.ne_of_lt hlt) #[.int i t1, .int j t2],
    ⟨⟨_, Heap.get?_push_size _ rfl, rfl, rfl⟩, pl'.at fun o e => Heap.get?_push_of_some _ e⟩, fun b hb => ?_, by simp, CmpOf.ints_lt (fun k => if k = 0 then i else j) pairVal, fun v h' tk hP hk => ?_⟩)
  · show b < (s.heap.push _).objs.size
    rw [Heap.size_push]
    rcases List.mem_cons.mp hb with e | hb
    · rw [e]; exact Nat.lt_succ_self _
    · rw [List.mem_singleton.mp hb]; exact Nat.lt_succ_of_lt hlt
  · have k : ∀ b o, s.heap.get? b = some o → h'.get? b = some o := fun b o e => hk b o (fun hm => absurd (by rw [List.mem_singleton.mp hm] at e; exact Heap.lt_size e) (Nat.lt_irrefl _)) (Heap.get?_push_of_some _ e)
    obtain ⟨t, rfl⟩ := pairVal _ _ hP
    refine ⟨_, H, I.kept k, ?_, q⟩
    show RelV (V.int (if j < i then j else i)) (Value.int (if argBest _ 1 = 0 then i else j) t)
    by_cases hj : j < i
    · have e : argBest (fun a b => decide ((if a = 0 then i else j) < (if b = 0 then i else j))) 1 = 1 := by simp [argBest, hj]
      rw [if_pos hj, e]
      exact ⟨t, rfl⟩
    · have e : argBest (fun a b => decide ((if a = 0 then i else j) < (if b = 0 then i else j))) 1 = 0 := by simp [argBest, hj]
      rw [if_neg hj, e]
      exact ⟨t, rfl⟩
theorem call_maxT (hc : X.calm = true) : CallR X (.builtin "max") (rMax2 X.K) := by
  intro pins s σ H xs us Q I r h
  obtain ⟨p, i, j, rfl, hq, q⟩ := h
  obtain ⟨u, rfl, ru⟩ := vals1 r
  cases ru
  obtain ⟨its, rv, pl, hz⟩ := I.tuple hq
  obtain ⟨u1, u2, rfl, ⟨t1, rfl⟩, ⟨t2, rfl⟩⟩ := vals2 rv
  have hlt : p < s.heap.objs.size := by obtain ⟨_, e, _⟩ := id pl; exact Heap.lt_size e
  have pl' : s.heap.IsTuple p #[Value.int i t1, Value.int j t2] := pl
  refine call_max_walk (wpAny_pyIter_tuple pl' ⟨_, _, _, _, _, _, _, rfl, Walks.tuple (A := X.A.in1) (I.ok.hd hc) _ p (Nat.ne_of_lt hlt) #[.int i t1, .int j t2],
    ⟨⟨_, Heap.get?_push_size _ rfl, rfl, rfl⟩, pl'.at fun o e => Heap.get?_push_of_some _ e⟩, fun b hb => ?_, by simp, CmpOf.ints_gt (fun k => if k = 0 then i else j) pairVal, fun v h' tk hP hk => ?_⟩)
  · show b < (s.heap.push _).objs.size
    rw [Heap.size_push]
    rcases List.mem_cons.mp hb with e | hb
    · rw [e]; exact Nat.lt_succ_self _
    · rw [List.mem_singleton.mp hb]; exact Nat.lt_succ_of_lt hlt
  · have k : ∀ b o, s.heap.get? b = some o → h'.get? b = some o := fun b o e => hk b o (fun hm => absurd (by rw [List.mem_singleton.mp hm] at e; exact Heap.lt_size e) (Nat.lt_irrefl _)) (Heap.get?_push_of_some _ e)
    obtain ⟨t, rfl⟩ := pairVal _ _ hP
    refine ⟨_, H, I.kept k, ?_, q⟩
    show RelV (V.int (if j > i then j else i)) (Value.int (if argBest _ 1 = 0 then i else j) t)
    by_cases hj : j > i
    · have e : argBest (fun a b => decide ((if a = 0 then i else j) > (if b = 0 then i else j))) 1 = 1 := by simp [argBest, hj]
      rw [if_pos hj, e]
      exact ⟨t, rfl⟩
    · have e : argBest (fun a b => decide ((if a = 0 then i else j) > (if b = 0 then i else j))) 1 = 0 := by simp [argBest, hj]
      rw [if_neg hj, e]
      exact ⟨t, rfl⟩

/-! ### isinstance -/
def rIsi (K : PySem.W.Frag) : List V → Hp → VK → Prop := fun xs H Q => ∃ x t c b, xs = [x, .ty c] ∧ TyOf K H x t ∧ PySem.W.kitOne K t (.type c) = some b ∧ Q (.bl b) H
theorem call_isi : CallR X (.builtin "isinstance") (rIsi X.K) := by
  intro pins s σ H xs us Q I r h
  obtain ⟨x, t, c, b, rfl, ty, e, q⟩ := h
  obtain ⟨u, w', rfl, ru, rc⟩ := vals2 r
  obtain rfl : w' = Value.type c := rc
  exact isinst_ok I ru ty e fun tk => ⟨.bl b, H, I.tok tk, rfl, q⟩
def rIsiC (K : PySem.W.Frag) : List V → Hp → VK → Prop := fun xs H Q => ∃ x t C b, xs = [x, .ref C] ∧ TyOf K H x t ∧ PySem.W.kitOne K t (.ref C) = some b ∧ Q (.bl b) H
theorem call_isiC : CallR X (.builtin "isinstance") (rIsiC X.K) := by
  intro pins s σ H xs us Q I r h
  obtain ⟨x, t, C, b, rfl, ty, e, q⟩ := h
  obtain ⟨u, w', rfl, ru, rc⟩ := vals2 r
  obtain rfl : w' = Value.ref C := rc
  exact isinst_ok I ru ty e fun tk => ⟨.bl b, H, I.tok tk, rfl, q⟩
end

/-! ### data: what a value tells, down to its leaves -/
mutual
inductive Den (H : Hp) : V → PyData → Prop
  | non : Den H .non .none
  | bl (b : Bool) : Den H (.bl b) (.bool b)
  | int (i : Int) : Den H (.int i) (.int i)
  | str (x : Str) : Den H (.str x) (.str x)
  | lst {a : Addr} {xs : List V} {ds : List PyData} : H a = some (.lst xs) → DenAll H xs ds → Den H (.ref a) (.list ds)
  | tup {a : Addr} {xs : List V} {ds : List PyData} : H a = some (.tup xs) → DenAll H xs ds → Den H (.ref a) (.tuple ds)
inductive DenAll (H : Hp) : List V → List PyData → Prop
  | nil : DenAll H [] []
  | cons {x : V} {d : PyData} {xs : List V} {ds : List PyData} : Den H x d → DenAll H xs ds → DenAll H (x :: xs) (d :: ds)
end
section
variable {X : Cx} {pins : List (Addr × Obj)} {σ : St} {H : Hp} {s : Shared}
mutual
theorem Den.reads (I : Inv X pins σ H s) : ∀ {d : PyData} {x : V} {u : Value}, Den H x d → RelV x u → ∃ as, Reads s.heap u d as
  | _, _, _, .non, r => by cases r; exact ⟨_, .none⟩
  | _, _, _, .bl b, r => by cases r; exact ⟨_, .bool b⟩
  | _, _, _, .int i, r => by obtain ⟨t, rfl⟩ := r; exact ⟨_, .int i t⟩
  | _, _, _, .str x, r => by obtain ⟨t, rfl⟩ := r; exact ⟨_, .str x t⟩
  | _, _, _, .lst e D, r => by
    cases r
    obtain ⟨z, its, n, rv, hl, eo⟩ := I.lstM e
    obtain ⟨as, R⟩ := DenAll.reads I D rv
    exact ⟨_, .list eo rfl rfl (by simpa using R)⟩
  | _, _, _, .tup e D, r => by
    cases r
    obtain ⟨its, rv, ⟨o, eo, hc, n, hd⟩, hz⟩ := I.tuple (SqT.of e)
    obtain ⟨as, R⟩ := DenAll.reads I D rv
    exact ⟨_, .tuple eo hc hd (by simpa using R)⟩
theorem DenAll.reads (I : Inv X pins σ H s) : ∀ {ds : List PyData} {xs : List V} {us : List Value}, DenAll H xs ds → Vals xs us → ∃ as, ReadsAll s.heap us ds as
  | _, _, _, .nil, r => by cases r; exact ⟨_, .nil⟩
  | _, _, _, .cons D E, r => by
    cases r with
    | cons r1 r2 =>
      obtain ⟨as, R⟩ := Den.reads I D r1
      obtain ⟨bs, S⟩ := DenAll.reads I E r2
      exact ⟨_, .cons R S⟩
end
end
section
variable {X : Cx}
def rEqD : R2 := fun x y H Q => ∃ dx dy, Den H x dx ∧ Den H y dy ∧ SeqAt.shaped dx = true ∧ SeqAt.shaped dy = true ∧ Q (.bl (PyData.eqv dx dy)) H
def rNeD : R2 := fun x y H Q => ∃ dx dy, Den H x dx ∧ Den H y dy ∧ SeqAt.shaped dx = true ∧ SeqAt.shaped dy = true ∧ Q (.bl (!PyData.eqv dx dy)) H
theorem op_eqD (hu : X.A.units + 64 < cLine) : OpR X (compareOp .Eq) rEqD := by
  intro pins s σ H x y v u Q I rx ry h
  obtain ⟨dx, dy, D1, D2, s1, s2, q⟩ := h
  obtain ⟨as, R1⟩ := D1.reads I rx
  obtain ⟨bs, R2⟩ := D2.reads I ry
  exact eq_dataH R1 R2 s1 s2 hu ⟨.bl _, H, I, rfl, q⟩
theorem op_neD (hu : X.A.units + 64 < cLine) : OpR X (compareOp .NotEq) rNeD := by
  intro pins s σ H x y v u Q I rx ry h
  obtain ⟨dx, dy, D1, D2, s1, s2, q⟩ := h
  obtain ⟨as, R1⟩ := D1.reads I rx
  obtain ⟨bs, R2⟩ := D2.reads I ry
  exact ne_dataH R1 R2 s1 s2 hu ⟨.bl _, H, I, rfl, q⟩

/-- whether a value reads as something equal to dx -/
noncomputable def eqTo (h : Heap) (dx : PyData) (v : Value) : Bool := by
  classical exact decide (∃ d as, Reads h v d as ∧ d.canLay0 = true ∧ PyData.eqv d dx = true)
theorem eqTo_of {h : Heap} {dx d : PyData} {v : Value} {as : List Addr} (r : Reads h v d as) (c : d.canLay0 = true) : eqTo h dx v = PyData.eqv d dx := by
  classical
  unfold eqTo
  by_cases e : PyData.eqv d dx = true
  · rw [e]
    exact decide_eq_true ⟨d, as, r, c, e⟩
  · rw [Bool.eq_false_iff.mpr e]
    refine decide_eq_false fun ⟨d', as', r', c', e'⟩ => e ?_
    have q := SeqAt.Reads.unique d d' v as as' c r r'
    rw [q]
    exact e'
theorem any_eqTo {h : Heap} {dx : PyData} : ∀ {us : List Value} {ds : List PyData} {as : List Addr}, ReadsAll h us ds as → PyData.canLayAll0 ds = true → us.any (eqTo h dx) = ds.any fun d => PyData.eqv d dx
  | _, _, _, .nil, _ => rfl
  | _, _, _, .cons r rs, c => by
    have c' : (PyData.canLay0 _ && PyData.canLayAll0 _) = true := c
    obtain ⟨c1, c2⟩ := Bool.and_eq_true_iff.mp c'
    rw [List.any_cons, List.any_cons, eqTo_of r c1, any_eqTo rs c2]
theorem mem_eqTo {A : Around} {s : Shared} {dx : PyData} {x : Value} {bs : List Addr} (rx : Reads s.heap x dx bs) (cx : dx.canLay0 = true) (hu : A.units + dx.depth < cLine) :
    ∀ {us : List Value} {ds : List PyData} {as : List Addr}, ReadsAll s.heap us ds as → PyData.canLayAll0 ds = true → ∀ u ∈ us, SeqAt.EqAt A s u x (eqTo s.heap dx u)
  | _, _, _, .nil, _ => fun u hu => nomatch hu
  | _, _, _, .cons (d := d) r rs, c => fun u hm => by
    have c' : (PyData.canLay0 _ && PyData.canLayAll0 _) = true := c
    obtain ⟨c1, c2⟩ := Bool.and_eq_true_iff.mp c'
    rcases List.mem_cons.mp hm with e | hm
    · subst e
      rw [eqTo_of r c1]
      exact SeqAt.eqAt_reads _ _ A s _ _ _ _ r rx c1 cx (Nat.lt_of_le_of_lt (Nat.add_le_add_left (Nat.min_le_right _ _) _) hu)
    · exact mem_eqTo rx cx hu rs c2 u hm
def rInD (neg : Bool) : R2 := fun x y H Q => ∃ p xs dx ds, y = .ref p ∧ (H p = some (.lst xs) ∨ H p = some (.tup xs)) ∧ DenAll H xs ds ∧ Den H x dx ∧ PyData.canLayAll0 ds = true ∧ SeqAt.shaped dx = true ∧
  Q (.bl (if neg then !(ds.any fun d => PyData.eqv d dx) else ds.any fun d => PyData.eqv d dx)) H
theorem in_room {A : Around} {dx : PyData} (hu : A.units + 65 < cLine) (s : SeqAt.shaped dx = true) : A.in1.units + dx.depth < cLine := by
  have h1 := SeqAt.depth_of_shaped s
  have h2 : A.in1.units = A.units + 1 := rfl
  omega
theorem op_inD (hu : X.A.units + 65 < cLine) : OpR X (compareOp .In) (rInD false) := by
  intro pins s σ H x y v u Q I rx ry h
  obtain ⟨p, xs, dx, ds, rfl, hp, DA, D, cs, sx, q⟩ := h
  cases ry
  obtain ⟨bs, R⟩ := D.reads I rx
  rcases hp with hp | hp
  · obtain ⟨its, r, pl, hz⟩ := I.list (SqL.of hp)
    obtain ⟨as, RA⟩ := DA.reads I r
    refine SeqAt.in_listAt (eqTo s.heap dx) pl.isList (fun w hw => mem_eqTo R (SeqAt.canLay_of_shaped sx) (in_room hu sx) RA cs w (by simpa using hw)) ⟨.bl _, H, I, rfl, ?_⟩
    rw [show its.toArray.any (eqTo s.heap dx) = its.any (eqTo s.heap dx) by simp, any_eqTo RA cs]
    exact q
  · obtain ⟨its, r, pl, hz⟩ := I.tuple (SqT.of hp)
    obtain ⟨as, RA⟩ := DA.reads I r
    refine SeqAt.in_tupleAt (eqTo s.heap dx) pl (fun w hw => mem_eqTo R (SeqAt.canLay_of_shaped sx) (in_room hu sx) RA cs w (by simpa using hw)) ⟨.bl _, H, I, rfl, ?_⟩
    rw [show its.toArray.any (eqTo s.heap dx) = its.any (eqTo s.heap dx) by simp, any_eqTo RA cs]
    exact q
theorem op_notInD (hu : X.A.units + 65 < cLine) : OpR X (compareOp .NotIn) (rInD true) := by
  intro pins s σ H x y v u Q I rx ry h
  obtain ⟨p, xs, dx, ds, rfl, hp, DA, D, cs, sx, q⟩ := h
  cases ry
  obtain ⟨bs, R⟩ := D.reads I rx
  rcases hp with hp | hp
  · obtain ⟨its, r, pl, hz⟩ := I.list (SqL.of hp)
    obtain ⟨as, RA⟩ := DA.reads I r
    refine SeqAt.notIn_listAt (eqTo s.heap dx) pl.isList (fun w hw => mem_eqTo R (SeqAt.canLay_of_shaped sx) (in_room hu sx) RA cs w (by simpa using hw)) ⟨.bl _, H, I, rfl, ?_⟩
    rw [show its.toArray.any (eqTo s.heap dx) = its.any (eqTo s.heap dx) by simp, any_eqTo RA cs]
    exact q
  · obtain ⟨its, r, pl, hz⟩ := I.tuple (SqT.of hp)
    obtain ⟨as, RA⟩ := DA.reads I r
    refine SeqAt.notIn_tupleAt (eqTo s.heap dx) pl (fun w hw => mem_eqTo R (SeqAt.canLay_of_shaped sx) (in_room hu sx) RA cs w (by simpa using hw)) ⟨.bl _, H, I, rfl, ?_⟩
    rw [show its.toArray.any (eqTo s.heap dx) = its.any (eqTo s.heap dx) by simp, any_eqTo RA cs]
    exact q
end
end L2
set_option Elab.async false
set_option linter.all false
set_option maxRecDepth 100000
set_option maxHeartbeats 4000000
/-! SHORT WORDS for this program: own work -/
namespace L2
open PySem PySem.Spec PyProof.Rows

/-! ### names of Python's own -/
theorem bt_len : bootBuiltins "len" = some (.builtin "len") := by decide +kernel
theorem bt_min : bootBuiltins "min" = some (.builtin "min") := by decide +kernel
theorem bt_max : bootBuiltins "max" = some (.builtin "max") := by decide +kernel
theorem bt_sum : bootBuiltins "sum" = some (.builtin "sum") := by decide +kernel
theorem bt_all : bootBuiltins "all" = some (.builtin "all") := by decide +kernel
theorem bt_any : bootBuiltins "any" = some (.builtin "any") := by decide +kernel
theorem bt_sorted : bootBuiltins "sorted" = some (.builtin "sorted") := by decide +kernel
theorem bt_isinstance : bootBuiltins "isinstance" = some (.builtin "isinstance") := by decide +kernel
theorem bt_bool : bootBuiltins "bool" = some (.type "bool") := by decide +kernel
theorem bt_int : bootBuiltins "int" = some (.type "int") := by decide +kernel
theorem bt_str : bootBuiltins "str" = some (.type "str") := by decide +kernel
theorem bt_list : bootBuiltins "list" = some (.type "list") := by decide +kernel
theorem bt_tuple : bootBuiltins "tuple" = some (.type "tuple") := by decide +kernel
theorem bt_dict : bootBuiltins "dict" = some (.type "dict") := by decide +kernel

/-! ### a def of the text at its place -/
structure DefAt (K : PySem.W.Frag) (mg : Str → Option Value) (x : Str) (st : Stmt) (ps : List Str) where
  a : Addr
  d : FuncData
  F : Fun K x x st a d
  e : ∀ us : List Value, us.length = ps.length → bindArgs d ⟨us, []⟩ = pure (ps.zip us)
  m : mg x = some (.ref a)
/-- the def as the top has made it -/
def DefAt.of {K : PySem.W.Frag} {mg : Str → Option Value} {x : Str} {st : Stmt} {ps : List Str} {h : Heap} {f : Addr} {oc : Value} {od an : Option Addr} {osl : Array (Option Value)} {kV doc pm cdv ct : Value} (X : K.In h) (G : h.Ns mainGlobals mg)
    (a : PySem.W.nsIn K mainGlobals x = some (some (.ref f))) (l : K.lookup f = some ⟨oc, od, .func (PySem.W.fnOf x x (defArgs st) (defBody st) (defScope st) .none kV doc pm an cdv ct), osl⟩) (c : PySem.W.codeIn K cdv x = true) (k : PySem.W.keepIn K (.ref f) = true)
    (hb : ∀ (kV doc pm : Value) (an : Option Addr) (cdv ct : Value) (us : List Value), us.length = ps.length → bindArgs (PySem.W.fnOf x x (defArgs st) (defBody st) (defScope st) .none kV doc pm an cdv ct) ⟨us, []⟩ = pure (ps.zip us)) : DefAt K mg x st ps :=
  ⟨f, _, fun_mk l c k, hb kV doc pm an cdv ct, PySem.W.mg_of X G a⟩
theorem pcall {X : Cx} {x : Str} {st : Stmt} {ps : List Str} {j k : Nat} {sp : Sp} {p pos : Pos} {e : Expr} {es : List Expr} {t : TA} (T : DefAt X.K X.mg x st ps) (G : FnOk X.prog X.w X.K X.mg X.base CX0 j T.a T.d ps sp) (hr : Room k X.A) (ha : PA X (e :: es) t)
    (hj : j ≤ k := by decide) (hg : Gl X x := by rfl) (hdb : (x == ("__debug__" : Str)) = false := by decide) (he : starEach (e :: es) X.env = (false, eval e X.env) :: starEach es X.env := by rfl) (hpl : (backTo pos (starEach es X.env)).any (·.1) = false := by rfl) :
    PE X (.Call (.Name x p) (e :: es) [] pos) (tCall sp [] E0 t) := pe_call G (hr.mono hj) hg T.m T.F.kp (Binds.all T.e) .nil pass0 ha hdb he hpl

theorem Room.u65 {k : Nat} {A : Around} (r : Room k A) : A.units + 65 < cLine := by have := r.un; omega
/-- xs[i] read for xs[i] op= e -/
theorem get_list {X : Cx} : PGet X (rIxL X.K) := by
  intro pins s σ H x y v u Q I rx ry h
  obtain ⟨p, xs, i, z, rfl, rfl, hq, he, q⟩ := h
  cases rx
  obtain ⟨t, rfl⟩ := ry
  obtain ⟨its, r, pl, hz⟩ := I.list hq
  obtain ⟨j, h1, h2, h3, h4, h5⟩ := atI_get he
  obtain ⟨w, ew, rw'⟩ := r.get h2
  have hl := r.length
  have hn := line63
  have fin : EP X pins σ Q w s := ⟨z, H, I, rw', q⟩
  by_cases h0 : 0 ≤ i
  · have hj : i.toNat = j := by
      rw [seqIndex_of h0 h5] at h1
      exact Option.some.inj h1
    exact wpAny_getItem_list pl.isList h0 (by omega) (by rw [hj]; simpa using ew) fin
  · have e : its.toArray.size = its.length := by simp
    have hj : (i + (its.toArray.size : Int)).toNat = j := by
      rw [seqIndex_neg (by omega) h4] at h1
      rw [e, ← hl]
      exact Option.some.inj h1
    exact wpAny_getItem_list_neg pl.isList (by omega) (by rw [e, ← hl]; omega) (by omega) (by rw [hj]; simpa using ew) fin

def rLenS (K : PySem.W.Frag) : List V → Hp → VK → Prop := fun xs H Q => ∃ p ys, xs = [.ref p] ∧ (SqL K H p ys ∨ SqT K H p ys) ∧ Q (.int ys.length) H
def rListOf (K : PySem.W.Frag) : List V → Hp → VK → Prop := fun xs H Q => ∃ p ys, xs = [.ref p] ∧ (SqL K H p ys ∨ SqT K H p ys) ∧ ∀ l, H l = none → Q (.ref l) (upd H l (.lst ys))

/-! ### heaps that grow -/
/-- all tuples are as they were -/
def TupS (H H' : Hp) : Prop := ∀ b xs, H b = some (.tup xs) → H' b = some (.tup xs)
theorem TupS.refl (H : Hp) : TupS H H := fun _ _ h => h
theorem TupS.trans {H H1 H2 : Hp} (a : TupS H H1) (b : TupS H1 H2) : TupS H H2 := fun c o h => b c o (a c o h)
theorem Same.ts {H H' : Hp} (h : Same H H') : TupS H H' := fun b xs e => h b _ e
theorem TupS.upd_none {H : Hp} {p : Addr} {o : HO} (h : H p = none) : TupS H (upd H p o) := fun b xs e => by rw [upd_ne (ne_of_none e h)]; exact e
theorem TupS.upd_lst {H : Hp} {p : Addr} {ys : List V} {o : HO} (h : H p = some (.lst ys)) : TupS H (upd H p o) := fun b xs e => by
  rw [upd_ne (ne_of e h (fun z => by cases z))]; exact e
theorem TupS.upd_dT {H : Hp} {p : Addr} {ys : List (List Key × V)} {o : HO} (h : H p = some (.dT ys)) : TupS H (upd H p o) := fun b xs e => by
  rw [upd_ne (ne_of e h (fun z => by cases z))]; exact e
theorem TupS.upd_dK {H : Hp} {p : Addr} {ys : List (Key × V)} {o : HO} (h : H p = some (.dK ys)) : TupS H (upd H p o) := fun b xs e => by
  rw [upd_ne (ne_of e h (fun z => by cases z))]; exact e
theorem Same.new {H : Hp} {p : Addr} {o : HO} (h : H p = none) : Same H (upd H p o) := fun b u e => by rw [upd_ne (ne_of_none e h)]; exact e
/-- a thing that was not there ahead may change -/
theorem Same.put {H0 H : Hp} {p : Addr} {o : HO} (s : Same H0 H) (h : H0 p = none) : Same H0 (upd H p o) := fun b u e => by rw [upd_ne (ne_of_none e h)]; exact s b u e

/-! ### pairs of ints -/
def IsP (H : Hp) (v : V) (p : Int × Int) : Prop := ∃ t, v = .ref t ∧ H t = some (.tup [.int p.1, .int p.2])
abbrev Ps (H : Hp) : List V → List (Int × Int) → Prop := Paired (IsP H)
theorem IsP.mono {H H' : Hp} {v : V} {p : Int × Int} (t : TupS H H') (h : IsP H v p) : IsP H' v p := let ⟨a, e, q⟩ := h; ⟨a, e, t a _ q⟩
theorem Ps.mono {H H' : Hp} {vs : List V} {ps : List (Int × Int)} (t : TupS H H') (h : Ps H vs ps) : Ps H' vs ps := Paired.mapP h fun _ _ q => q.mono t
theorem Ps.get {H : Hp} : ∀ {vs : List V} {ps : List (Int × Int)} {i : Nat} {v : V}, Ps H vs ps → vs[i]? = some v → ∃ p, ps[i]? = some p ∧ IsP H v p
  | _, _, _, _, .nil, e => by simp at e
  | _, _, 0, _, .cons r _, e => by simp at e; subst e; exact ⟨_, rfl, r⟩
  | _, _, i + 1, v, .cons _ t, e => by
    obtain ⟨u, h1, h2⟩ := Ps.get (i := i) (v := v) t (by simpa using e)
    exact ⟨u, by simpa using h1, h2⟩
theorem Paired.append {α β : Type} {F : α → β → Prop} : ∀ {a b : List α} {c d : List β}, Paired F a c → Paired F b d → Paired F (a ++ b) (c ++ d)
  | _, _, _, _, .nil, s => s
  | _, _, _, _, .cons r t, s => .cons r (Paired.append t s)

/-- a list of pairs stands at a -/
def LP (H : Hp) (a : Addr) (ps : List (Int × Int)) : Prop := ∃ vs, H a = some (.lst vs) ∧ Ps H vs ps
theorem LP.same {H H' : Hp} {a : Addr} {ps : List (Int × Int)} (s : Same H H') (h : LP H a ps) : LP H' a ps := let ⟨vs, e, q⟩ := h; ⟨vs, s _ _ e, q.mono s.ts⟩
/-- a list of ints stands at a -/
def LI (H : Hp) (a : Addr) (is : List Int) : Prop := H a = some (.lst (is.map V.int))
theorem LI.same {H H' : Hp} {a : Addr} {is : List Int} (s : Same H H') (h : LI H a is) : LI H' a is := s _ _ h

def pd (p : Int × Int) : PyData := .tuple [.int p.1, .int p.2]
theorem IsP.den {H : Hp} {v : V} {p : Int × Int} (h : IsP H v p) : Den H v (pd p) := by
  obtain ⟨t, rfl, q⟩ := h
  exact .tup q (.cons (.int _) (.cons (.int _) .nil))
theorem Ps.den {H : Hp} : ∀ {vs : List V} {ps : List (Int × Int)}, Ps H vs ps → DenAll H vs (ps.map pd)
  | _, _, .nil => .nil
  | _, _, .cons r t => .cons r.den (Ps.den t)
theorem LP.den {H : Hp} {a : Addr} {ps : List (Int × Int)} (h : LP H a ps) : Den H (.ref a) (.list (ps.map pd)) := let ⟨_, e, q⟩ := h; .lst e q.den
theorem ints_den {H : Hp} : ∀ is : List Int, DenAll H (is.map V.int) (is.map PyData.int)
  | [] => .nil
  | _ :: r => .cons (.int _) (ints_den r)
theorem LI.den {H : Hp} {a : Addr} {is : List Int} (h : LI H a is) : Den H (.ref a) (.list (is.map PyData.int)) := .lst h (ints_den is)
theorem eqv_pd (a b : Int × Int) : PyData.eqv (pd a) (pd b) = decide (a = b) := by
  obtain ⟨a1, a2⟩ := a
  obtain ⟨b1, b2⟩ := b
  show (PyData.eqv (.int a1) (.int b1) && (PyData.eqv (.int a2) (.int b2) && PyData.eqvAll [] [])) = _
  simp only [PyData.eqv, PyData.eqvAll, Bool.and_true]
  by_cases h1 : a1 = b1 <;> by_cases h2 : a2 = b2 <;> simp [h1, h2]
theorem eqvAll_pd : ∀ ps qs : List (Int × Int), PyData.eqvAll (ps.map pd) (qs.map pd) = decide (ps = qs)
  | [], [] => by simp [PyData.eqvAll]
  | [], _ :: _ => by simp [PyData.eqvAll]
  | _ :: _, [] => by simp [PyData.eqvAll]
  | a :: r, b :: t => by
    simp only [List.map_cons, PyData.eqvAll, eqv_pd, eqvAll_pd r t]
    by_cases h : a = b <;> by_cases h' : r = t <;> simp [h, h']
theorem eqvAll_ints : ∀ ps qs : List Int, PyData.eqvAll (ps.map PyData.int) (qs.map PyData.int) = decide (ps = qs)
  | [], [] => by simp [PyData.eqvAll]
  | [], _ :: _ => by simp [PyData.eqvAll]
  | _ :: _, [] => by simp [PyData.eqvAll]
  | a :: r, b :: t => by
    simp only [List.map_cons, PyData.eqvAll, PyData.eqv, eqvAll_ints r t]
    by_cases h : a = b <;> by_cases h' : r = t <;> simp [h, h']
theorem can_pd : ∀ ps : List (Int × Int), PyData.canLayAll0 (ps.map pd) = true
  | [] => rfl
  | _ :: r => by rw [List.map_cons, PyData.canLayAll0, can_pd r]; rfl
theorem can_ints : ∀ ps : List Int, PyData.canLayAll0 (ps.map PyData.int) = true
  | [] => rfl
  | _ :: r => by rw [List.map_cons, PyData.canLayAll0, can_ints r]; rfl
theorem depth_pd : ∀ ps : List (Int × Int), PyData.depthAll (ps.map pd) ≤ 1
  | [] => by simp [PyData.depthAll]
  | _ :: r => by
    have := depth_pd r
    simp only [List.map_cons, PyData.depthAll, pd, PyData.depth]
    omega
theorem depth_ints : ∀ ps : List Int, PyData.depthAll (ps.map PyData.int) = 0
  | [] => by simp [PyData.depthAll]
  | _ :: r => by
    have := depth_ints r
    simp only [List.map_cons, PyData.depthAll, PyData.depth]
    omega
theorem shaped_pd (p : Int × Int) : SeqAt.shaped (pd p) = true := rfl
theorem shaped_pds (ps : List (Int × Int)) : SeqAt.shaped (.list (ps.map pd)) = true := by
  have h := depth_pd ps
  unfold SeqAt.shaped
  rw [PyData.canLay0, can_pd, Bool.true_and]
  exact decide_eq_true (by rw [PyData.depth]; omega)
theorem shaped_ints (ps : List Int) : SeqAt.shaped (.list (ps.map PyData.int)) = true := by
  have h := depth_ints ps
  unfold SeqAt.shaped
  rw [PyData.canLay0, can_ints, Bool.true_and]
  exact decide_eq_true (by rw [PyData.depth]; omega)
theorem any_pd (ps : List (Int × Int)) (p : Int × Int) : ((ps.map pd).any fun d => PyData.eqv d (pd p)) = decide (p ∈ ps) := by
  induction ps with
  | nil => rfl
  | cons a r ih =>
    rw [List.map_cons, List.any_cons, ih, eqv_pd]
    by_cases h : a = p <;> by_cases h' : p ∈ r <;> simp [h, h', eq_comm]
    · exact fun z => absurd z.symm h

/-! ### comprehensions, by an invariant of what has been gathered -/
/-- one turn of a comprehension -/
def CmpTurn (n : Nat) (σ0 : St) (g : TG) (tc : TT) (te : TE) (p : Addr) (x : V) (acc : List V) (H : Hp) (N : List V → Hp → Prop) : Prop :=
  g x σ0 H fun σ2 H2 => (σ2.length = σ0.length ∧ σ2.drop n = σ0.drop n) ∧ tc σ2 H2 fun c H3 =>
    if c = true then te σ2 H3 fun y H4 => H4 p = some (.lst acc) ∧ N (acc ++ [y]) (upd H4 p (.lst (acc ++ [y]))) else N acc H3
theorem cmp_list {K : PySem.W.Frag} {a p : Addr} {xs : List V} {n : Nat} {σ0 : St} {g : TG} {tc : TT} {te : TE} {H1 : Hp} {Q : VK} (Pv : Nat → List V → Hp → Prop) (hz : xs.length < sizeLine) (h0 : Pv 0 [] (upd H1 p (.lst [])))
    (hl : ∀ i acc H, i ≤ xs.length → Pv i acc H → SqL K H a xs ∧ H p = some (.lst acc) ∧ acc.length ≤ i)
    (hs : ∀ i x acc H, xs[i]? = some x → Pv i acc H → CmpTurn n σ0 g tc te p x acc H (Pv (i + 1)))
    (hd : ∀ acc H, Pv xs.length acc H → Q (.ref p) H) : CmpW (Itl K a) n σ0 g tc te p H1 Q := by
  refine ⟨fun i m acc H => Pv i acc H ∧ i ≤ xs.length ∧ m = xs.length - i, ⟨xs.length, h0, Nat.zero_le _, by omega⟩, ?_⟩
  rintro i m acc H ⟨q, hi, rfl⟩
  obtain ⟨q1, q2, q3⟩ := hl i acc H hi q
  refine ⟨q2, ?_⟩
  by_cases e : i = xs.length
  · subst e
    exact .inl ⟨⟨xs, q1, Nat.le_refl _⟩, hd acc H q⟩
  · have hlt : i < xs.length := by omega
    refine .inr ⟨⟨xs, xs[i], q1, List.getElem?_eq_getElem hlt⟩, by omega, Pv (i + 1), fun acc' H' z => ⟨xs.length - (i + 1), by omega, z, hlt, rfl⟩, ?_⟩
    rintro x H' ⟨rfl, y⟩
    exact hs i x acc _ (y xs q1) q
theorem cmp_tup {K : PySem.W.Frag} {a p : Addr} {xs : List V} {n : Nat} {σ0 : St} {g : TG} {tc : TT} {te : TE} {H1 : Hp} {Q : VK} (Pv : Nat → List V → Hp → Prop) (hz : xs.length < sizeLine) (h0 : Pv 0 [] (upd H1 p (.lst [])))
    (hl : ∀ i acc H, i ≤ xs.length → Pv i acc H → SqT K H a xs ∧ H p = some (.lst acc) ∧ acc.length ≤ i)
    (hs : ∀ i x acc H, xs[i]? = some x → Pv i acc H → CmpTurn n σ0 g tc te p x acc H (Pv (i + 1)))
    (hd : ∀ acc H, Pv xs.length acc H → Q (.ref p) H) : CmpW (Itt K a) n σ0 g tc te p H1 Q := by
  refine ⟨fun i m acc H => Pv i acc H ∧ i ≤ xs.length ∧ m = xs.length - i, ⟨xs.length, h0, Nat.zero_le _, by omega⟩, ?_⟩
  rintro i m acc H ⟨q, hi, rfl⟩
  obtain ⟨q1, q2, q3⟩ := hl i acc H hi q
  refine ⟨q2, ?_⟩
  by_cases e : i = xs.length
  · subst e
    exact .inl ⟨⟨xs, q1, Nat.le_refl _⟩, hd acc H q⟩
  · have hlt : i < xs.length := by omega
    refine .inr ⟨⟨xs, xs[i], q1, List.getElem?_eq_getElem hlt⟩, by omega, Pv (i + 1), fun acc' H' z => ⟨xs.length - (i + 1), by omega, z, hlt, rfl⟩, ?_⟩
    rintro x H' ⟨rfl, y⟩
    exact hs i x acc _ (y xs q1) q
theorem cmp_range {lo : Int} {m' : Nat} {p : Addr} {n : Nat} {σ0 : St} {g : TG} {tc : TT} {te : TE} {H1 : Hp} {Q : VK} (Pv : Nat → List V → Hp → Prop) (hz : m' < sizeLine) (h0 : Pv 0 [] (upd H1 p (.lst [])))
    (hl : ∀ i acc H, i ≤ m' → Pv i acc H → H p = some (.lst acc) ∧ acc.length ≤ i)
    (hs : ∀ i acc H, i < m' → Pv i acc H → CmpTurn n σ0 g tc te p (.int (lo + i)) acc H (Pv (i + 1)))
    (hd : ∀ acc H, Pv m' acc H → Q (.ref p) H) : CmpW (Itr lo m') n σ0 g tc te p H1 Q := by
  refine ⟨fun i m acc H => Pv i acc H ∧ i ≤ m' ∧ m = m' - i, ⟨m', h0, Nat.zero_le _, by omega⟩, ?_⟩
  rintro i m acc H ⟨q, hi, rfl⟩
  obtain ⟨q2, q3⟩ := hl i acc H hi q
  refine ⟨q2, ?_⟩
  by_cases e : i = m'
  · subst e
    exact .inl ⟨Nat.le_refl _, hd acc H q⟩
  · have hlt : i < m' := by omega
    refine .inr ⟨hlt, by omega, Pv (i + 1), fun acc' H' z => ⟨m' - (i + 1), by omega, z, hlt, rfl⟩, ?_⟩
    rintro x H' ⟨rfl, rfl⟩
    exact hs i acc _ hlt q
end L2
set_option linter.all false
namespace L2
open PySem
theorem len_s {n : Nat} {us : List Value} (h : us.length = n + 1) : ∃ a r, us = a :: r ∧ r.length = n := by
  cases us with
  | nil => cases h
  | cons a r => exact ⟨a, r, rfl, Nat.succ.inj h⟩
theorem len_0 {us : List Value} (h : us.length = 0) : us = [] := List.eq_nil_of_length_eq_zero h
theorem len_1 {us : List Value} (h : us.length = 1) : ∃ a, us = [a] := by
  obtain ⟨a, r, rfl, h'⟩ := len_s (n := 0) h
  exact ⟨a, by rw [len_0 h']⟩
theorem len_2 {us : List Value} (h : us.length = 2) : ∃ a b, us = [a, b] := by
  obtain ⟨a, r, rfl, h'⟩ := len_s (n := 1) h
  obtain ⟨b, rfl⟩ := len_1 h'
  exact ⟨a, b, rfl⟩
theorem len_3 {us : List Value} (h : us.length = 3) : ∃ a b c, us = [a, b, c] := by
  obtain ⟨a, r, rfl, h'⟩ := len_s (n := 2) h
  obtain ⟨b, c, rfl⟩ := len_2 h'
  exact ⟨a, b, c, rfl⟩
theorem len_4 {us : List Value} (h : us.length = 4) : ∃ a b c d, us = [a, b, c, d] := by
  obtain ⟨a, r, rfl, h'⟩ := len_s (n := 3) h
  obtain ⟨b, c, d, rfl⟩ := len_3 h'
  exact ⟨a, b, c, d, rfl⟩
theorem len_5 {us : List Value} (h : us.length = 5) : ∃ a b c d e, us = [a, b, c, d, e] := by
  obtain ⟨a, r, rfl, h'⟩ := len_s (n := 4) h
  obtain ⟨b, c, d, e, rfl⟩ := len_4 h'
  exact ⟨a, b, c, d, e, rfl⟩
end L2
set_option Elab.async false
set_option linter.all false
set_option maxRecDepth 100000
set_option maxHeartbeats 4000000
/-! FURTHER RULES, second part: sum, all, any, sorted; own work -/
namespace L2
open PySem PySem.Spec PyProof.Rows
section
variable {X : Cx}

/-- what a walk over a tracked list needs, from the state at hand -/
theorem list_walk {pins : List (Addr × Obj)} {σ : St} {H : Hp} {s : Shared} {p : Addr} {xs : List V} (I : Inv X pins σ H s) (hc : X.calm = true) (hq : SqL X.K H p xs) :
    ∃ its : List Value, Vals xs its ∧ s.heap.IsList p its.toArray ∧ p < s.heap.objs.size ∧
      (∀ {s₂ : Shared}, s₂ = { s with heap := s.heap.push { cls := .type "list_iterator", data := .fields #[.ref p, .int 0 0] } } → s₂.heap.IsListIter s.heap.objs.size p 0 ∧ s₂.heap.IsList p its.toArray) := by
  obtain ⟨its, rv, pl, hz⟩ := I.list hq
  have hl := pl.isList
  have hlt : p < s.heap.objs.size := by obtain ⟨_, e, _⟩ := id hl; exact Heap.lt_size e
  refine ⟨its, rv, hl, hlt, fun {s₂} e => ?_⟩
  subst e
  exact ⟨⟨_, Heap.get?_push_size _ rfl, rfl, rfl⟩, hl.at fun o e => Heap.get?_push_of_some _ e⟩
theorem walk_old {h h' : Heap} {p : Addr} (hk : ∀ b o, b ∉ [h.objs.size] → (h.push { cls := .type "list_iterator", data := .fields #[.ref p, .int 0 0] }).get? b = some o → h'.get? b = some o) : ∀ b o, h.get? b = some o → h'.get? b = some o :=
  fun b o e => hk b o (fun hm => absurd (by rw [List.mem_singleton.mp hm] at e; exact Heap.lt_size e) (Nat.lt_irrefl _)) (Heap.get?_push_of_some _ e)
theorem walk_fp {h : Heap} {p : Addr} {ob : Obj} (hlt : p < h.objs.size) : ∀ b ∈ [h.objs.size, p], b < (h.push ob).objs.size := fun b hb => by
  rw [Heap.size_push]
  rcases List.mem_cons.mp hb with e | hb
  · rw [e]; exact Nat.lt_succ_self _
  · rw [List.mem_singleton.mp hb]; exact Nat.lt_succ_of_lt hlt

theorem int_at {is : List Int} {its : List Value} (rv : Vals (is.map V.int) its) {i : Nat} {v : Value} (h : its.toArray[i]? = some v) : ∃ t, v = .int (is.getD i 0) t := by
  have h' : its[i]? = some v := by simpa using h
  have hl := rv.length
  rw [List.length_map] at hl
  have hi : i < is.length := by rw [hl]; exact (List.getElem?_eq_some_iff.mp h').1
  obtain ⟨u, hu, ru⟩ := rv.get (i := i) (x := .int (is.getD i 0)) (by rw [List.getElem?_map, List.getElem?_eq_getElem hi]; simp [List.getD, List.getElem?_eq_getElem hi])
  rw [h'] at hu
  cases hu
  exact ru
theorem preSum_list (is : List Int) : ∀ n, n ≤ is.length → preSum (fun i => is.getD i 0) n = (is.take n).sum
  | 0, _ => by simp [preSum]
  | n + 1, h => by
    have ih := preSum_list is n (by omega)
    have hn : n < is.length := by omega
    show preSum (fun i => is.getD i 0) n + is.getD n 0 = _
    rw [ih, List.take_add_one, List.getElem?_eq_getElem hn, List.sum_append]
    simp [List.getD, List.getElem?_eq_getElem hn]
/-- the sum of a list of small ints -/
def SmallSum (is : List Int) : Prop := ∀ n, n ≤ is.length → (-(2 ^ 62) < (is.take n).sum ∧ (is.take n).sum < 2 ^ 62)
theorem small_sum {is : List Int} (b : Int) (h : ∀ x ∈ is, -b ≤ x ∧ x ≤ b) (hl : (is.length : Int) * b < 2 ^ 62) (hb : 0 ≤ b) : SmallSum is := by
  have key : ∀ n, n ≤ is.length → -((n : Int) * b) ≤ (is.take n).sum ∧ (is.take n).sum ≤ (n : Int) * b := by
    intro n
    induction n with
    | zero => intro _; simp
    | succ n ih =>
      intro hn
      obtain ⟨h1, h2⟩ := ih (by omega)
      have hn' : n < is.length := by omega
      obtain ⟨h3, h4⟩ := h is[n] (List.getElem_mem hn')
      rw [List.take_add_one, List.getElem?_eq_getElem hn', List.sum_append]
      have e : ((n + 1 : Nat) : Int) * b = (n : Int) * b + b := by rw [Int.natCast_succ, Int.add_mul, Int.one_mul]
      rw [e]
      simp only [Option.toList_some, List.sum_cons, List.sum_nil]
      omega
  intro n hn
  obtain ⟨h1, h2⟩ := key n hn
  have h3 : (n : Int) * b ≤ (is.length : Int) * b := Int.mul_le_mul_of_nonneg_right (by omega) hb
  omega
def rSumL (K : PySem.W.Frag) : List V → Hp → VK → Prop := fun xs H Q => ∃ (p : Addr) (is : List Int), xs = [.ref p] ∧ SqL K H p (is.map V.int) ∧ SmallSum is ∧ Q (.int is.sum) H
theorem call_sumL (hc : X.calm = true) : CallR X (.builtin "sum") (rSumL X.K) := by
  intro pins s σ H xs us Q I r h
  obtain ⟨p, is, rfl, hq, hs, q⟩ := h
  obtain ⟨u, rfl, ru⟩ := vals1 r
  cases ru
  obtain ⟨its, rv, hl, hlt, hst⟩ := list_walk I hc hq
  have hlen : its.toArray.size = is.length := by
    have := rv.length
    rw [List.length_map] at this
    simp [this]
  refine call_sum_walk (wpAny_pyIter_list hl ⟨_, _, _, _, _, _, fun i => is.getD i 0, rfl, Walks.list (A := X.A.in1) (I.ok.hd hc) _ p (Nat.ne_of_lt hlt) its.toArray, hst rfl, walk_fp hlt, fun i v hv => int_at rv hv, fun j hj => ?_, fun h' tk t' hk => ?_⟩)
  · rw [hlen] at hj
    have e1 := preSum_list is j (by omega)
    have e2 := preSum_list is (j + 1) hj
    have b1 := hs j (by omega)
    have b2 := hs (j + 1) hj
    have e3 : preSum (fun i => is.getD i 0) (j + 1) = preSum (fun i => is.getD i 0) j + is.getD j 0 := rfl
    show (-(2 ^ 63) ≤ is.getD j 0 ∧ is.getD j 0 < 2 ^ 63) ∧ (-(2 ^ 63) ≤ preSum (fun i => is.getD i 0) (j + 1) ∧ preSum (fun i => is.getD i 0) (j + 1) < 2 ^ 63)
    rw [e2]
    rw [e1, e2] at e3
    constructor <;> constructor <;> omega
  · rw [hlen, preSum_list is _ (Nat.le_refl _), List.take_length]
    exact ⟨.int is.sum, H, I.kept (walk_old hk), ⟨t', rfl⟩, q⟩

theorem bool_at {bs : List Bool} {its : List Value} (rv : Vals (bs.map V.bl) its) {i : Nat} {v : Value} (h : its.toArray[i]? = some v) : v = .bool (bs.getD i false) := by
  have h' : its[i]? = some v := by simpa using h
  have hl := rv.length
  rw [List.length_map] at hl
  have hi : i < bs.length := by rw [hl]; exact (List.getElem?_eq_some_iff.mp h').1
  obtain ⟨u, hu, ru⟩ := rv.get (i := i) (x := .bl (bs.getD i false)) (by rw [List.getElem?_map, List.getElem?_eq_getElem hi]; simp [List.getD, List.getElem?_eq_getElem hi])
  rw [h'] at hu
  cases hu
  exact ru
theorem range_getD {α : Type} (l : List α) (d : α) : (List.range l.length).map (fun i => l.getD i d) = l := by
  refine List.ext_getElem (by simp) fun i h1 h2 => ?_
  simp [List.getD, List.getElem?_eq_getElem h2]
def rAllL (K : PySem.W.Frag) : List V → Hp → VK → Prop := fun xs H Q => ∃ (p : Addr) (bs : List Bool), xs = [.ref p] ∧ SqL K H p (bs.map V.bl) ∧ Q (.bl (bs.all id)) H
def rAnyL (K : PySem.W.Frag) : List V → Hp → VK → Prop := fun xs H Q => ∃ (p : Addr) (bs : List Bool), xs = [.ref p] ∧ SqL K H p (bs.map V.bl) ∧ Q (.bl (bs.any id)) H
theorem call_allL (hc : X.calm = true) : CallR X (.builtin "all") (rAllL X.K) := by
  intro pins s σ H xs us Q I r h
  obtain ⟨p, bs, rfl, hq, q⟩ := h
  obtain ⟨u, rfl, ru⟩ := vals1 r
  cases ru
  obtain ⟨its, rv, hl, hlt, hst⟩ := list_walk I hc hq
  have hlen : its.toArray.size = bs.length := by
    have := rv.length
    rw [List.length_map] at this
    simp [this]
  refine call_all_walk (wpAny_pyIter_list hl ⟨_, _, _, _, _, _, fun i => bs.getD i false, rfl, Walks.list (A := X.A.in1) (I.ok.hd hc) _ p (Nat.ne_of_lt hlt) its.toArray, hst rfl, (fun i v s' Q' E' hv hQ => by rw [bool_at rv hv]; exact wpAny_truthy_bool hQ), fun h' tk hk => ?_⟩)
  have e : (List.range its.toArray.size).all (fun i => bs.getD i false) = bs.all id := by
    rw [hlen]
    have e2 : (List.range bs.length).all (fun i => bs.getD i false) = ((List.range bs.length).map fun i => bs.getD i false).all id := by rw [List.all_map]; rfl
    rw [e2, range_getD]
  rw [e]
  exact ⟨.bl _, H, I.kept (walk_old hk), rfl, q⟩
theorem call_anyL (hc : X.calm = true) : CallR X (.builtin "any") (rAnyL X.K) := by
  intro pins s σ H xs us Q I r h
  obtain ⟨p, bs, rfl, hq, q⟩ := h
  obtain ⟨u, rfl, ru⟩ := vals1 r
  cases ru
  obtain ⟨its, rv, hl, hlt, hst⟩ := list_walk I hc hq
  have hlen : its.toArray.size = bs.length := by
    have := rv.length
    rw [List.length_map] at this
    simp [this]
  refine call_any_walk (wpAny_pyIter_list hl ⟨_, _, _, _, _, _, fun i => bs.getD i false, rfl, Walks.list (A := X.A.in1) (I.ok.hd hc) _ p (Nat.ne_of_lt hlt) its.toArray, hst rfl, (fun i v s' Q' E' hv hQ => by rw [bool_at rv hv]; exact wpAny_truthy_bool hQ), fun h' tk hk => ?_⟩)
  have e : (List.range its.toArray.size).any (fun i => bs.getD i false) = bs.any id := by
    rw [hlen]
    have e2 : (List.range bs.length).any (fun i => bs.getD i false) = ((List.range bs.length).map fun i => bs.getD i false).any id := by rw [List.any_map]; rfl
    rw [e2, range_getD]
  rw [e]
  exact ⟨.bl _, H, I.kept (walk_old hk), rfl, q⟩

/-! ### sorted of a list of ints, fewer than 64 -/
theorem ints_vals : ∀ {vs : List Value} {ns : List Int}, IntsAre vs ns → Vals (ns.map V.int) vs := vals_ints
def rSortedL (K : PySem.W.Frag) : List V → Hp → VK → Prop := fun xs H Q => ∃ (p : Addr) (is : List Int), xs = [.ref p] ∧ SqL K H p (is.map V.int) ∧ is.length < 64 ∧ ∀ (r : Addr) (js : List Int), H r = none → js.Perm is → js.Pairwise (· ≤ ·) → Q (.ref r) (upd H r (.lst (js.map V.int)))
theorem call_sortedL : CallR X (.builtin "sorted") (rSortedL X.K) := by
  intro pins s σ H xs us Q I r h
  obtain ⟨p, is, rfl, hq, h64, q⟩ := h
  obtain ⟨u, rfl, ru⟩ := vals1 r
  cases ru
  obtain ⟨its, rv, pl, hz⟩ := I.list hq
  have hI : IntsAre its is := by
    have := intsAre_of rv
    simpa using this
  have hlen := rv.length
  rw [List.length_map] at hlen
  refine sorted_ints pl.isList hI (by omega) fun out js a1 a2 a3 => ?_
  obtain ⟨e, he⟩ := sortedAll_at s.heap its out
  have hfr : H (s.heap.objs.size + 1) = none := I.hok.fresh (Nat.le_succ _)
  have hjl : (js.map V.int).length ≤ sizeLine := by
    rw [List.length_map, a2.length_eq]
    exact Nat.le_of_lt (small1000 (by omega))
  have I2 : Inv X pins σ (upd H (s.heap.objs.size + 1) (.lst (js.map V.int))) { s with heap := sortedAll s.heap its out, toks := s.toks } :=
    I.laid (o := .lst (js.map V.int)) (fun b o eb => sortedAll_old eb) (Nat.le_succ _) ⟨hjl, out.toList, e, vals_ints a1, he⟩
  exact ⟨.ref (s.heap.objs.size + 1), _, I2, rfl, q _ js hfr a2 a3⟩
end
end L2
set_option Elab.async false
set_option linter.all false
set_option maxRecDepth 100000
set_option maxHeartbeats 4000000
/-! max and min of a list of ints; xs.index(k). Own work. -/
namespace L2
open PySem PySem.Spec PyProof.Rows
theorem best_of {f : Nat → Int} {r : Int → Int → Prop} [∀ a b, Decidable (r a b)] (rr : ∀ a, ¬ r a a) (tr : ∀ a b c, ¬ r a b → r c b → ¬ r a c) : ∀ j, argBest (fun a b => decide (r (f a) (f b))) j ≤ j ∧ ∀ i, i ≤ j → ¬ r (f i) (f (argBest (fun a b => decide (r (f a) (f b))) j))
  | 0 => ⟨Nat.le_refl _, fun i hi => by have : i = 0 := by omega
                                        subst this; exact rr _⟩
  | j + 1 => by
    obtain ⟨h1, h2⟩ := best_of rr tr (f := f) (r := r) j
    unfold argBest
    by_cases c : r (f (j + 1)) (f (argBest (fun a b => decide (r (f a) (f b))) j))
    · rw [if_pos (decide_eq_true c)]
      refine ⟨Nat.le_refl _, fun i hi => ?_⟩
      by_cases e : i = j + 1
      · subst e; exact rr _
      · exact tr _ _ _ (h2 i (by omega)) c
    · rw [if_neg (by simpa using c)]
      refine ⟨by omega, fun i hi => ?_⟩
      by_cases e : i = j + 1
      · subst e; exact c
      · exact h2 i (by omega)
def rMaxL (K : PySem.W.Frag) : List V → Hp → VK → Prop := fun xs H Q => ∃ (p : Addr) (is : List Int), xs = [.ref p] ∧ SqL K H p (is.map V.int) ∧ is ≠ [] ∧ ∀ m, m ∈ is → (∀ x ∈ is, x ≤ m) → Q (.int m) H
def rMinL (K : PySem.W.Frag) : List V → Hp → VK → Prop := fun xs H Q => ∃ (p : Addr) (is : List Int), xs = [.ref p] ∧ SqL K H p (is.map V.int) ∧ is ≠ [] ∧ ∀ m, m ∈ is → (∀ x ∈ is, m ≤ x) → Q (.int m) H
section
variable {X : Cx}
theorem getD_in {is : List Int} {i : Nat} (h : i < is.length) : is.getD i 0 ∈ is := by
  rw [List.getD_eq_getElem?_getD, List.getElem?_eq_getElem h]
  exact List.getElem_mem h
theorem in_getD {is : List Int} {x : Int} (h : x ∈ is) : ∃ i, i < is.length ∧ is.getD i 0 = x := by
  obtain ⟨i, hi, e⟩ := List.getElem_of_mem h
  exact ⟨i, hi, by rw [List.getD_eq_getElem?_getD, List.getElem?_eq_getElem hi]; exact e⟩
theorem call_maxL (hc : X.calm = true) : CallR X (.builtin "max") (rMaxL X.K) := by
  intro pins s σ H xs us Q I r h
  obtain ⟨p, is, rfl, hq, hne, q⟩ := h
  obtain ⟨u, rfl, ru⟩ := vals1 r
  cases ru
  obtain ⟨its, rv, hl, hlt, hst⟩ := list_walk I hc hq
  have hlen : its.toArray.size = is.length := by
    have := rv.length
    rw [List.length_map] at this
    simp [this]
  have hpos : 0 < is.length := List.length_pos_iff.mpr hne
  refine call_max_walk (wpAny_pyIter_list hl ⟨_, _, _, _, _, _, _, rfl, Walks.list (A := X.A.in1) (I.ok.hd hc) _ p (Nat.ne_of_lt hlt) its.toArray, hst rfl, walk_fp hlt, by rw [hlen]; exact hpos, CmpOf.ints_gt (fun k => is.getD k 0) (fun i v hv => int_at rv hv), fun v h' tk hP hk => ?_⟩)
  obtain ⟨t, rfl⟩ := int_at rv hP
  have hb := best_of (f := fun k => is.getD k 0) (r := fun a b => a > b) (fun a => by omega) (fun a b c h1 h2 => by omega) (its.toArray.size - 1)
  rw [hlen] at hb ⊢
  refine ⟨.int _, H, I.kept (walk_old hk), ⟨t, rfl⟩, q _ (getD_in (by omega)) fun x hx => ?_⟩
  obtain ⟨i, hi, rfl⟩ := in_getD hx
  have := hb.2 i (by omega)
  omega
theorem call_minL (hc : X.calm = true) : CallR X (.builtin "min") (rMinL X.K) := by
  intro pins s σ H xs us Q I r h
  obtain ⟨p, is, rfl, hq, hne, q⟩ := h
  obtain ⟨u, rfl, ru⟩ := vals1 r
  cases ru
  obtain ⟨its, rv, hl, hlt, hst⟩ := list_walk I hc hq
  have hlen : its.toArray.size = is.length := by
    have := rv.length
    rw [List.length_map] at this
    simp [this]
  have hpos : 0 < is.length := List.length_pos_iff.mpr hne
  refine call_min_walk (wpAny_pyIter_list hl ⟨_, _, _, _, _, _, _, rfl, Walks.list (A := X.A.in1) (I.ok.hd hc) _ p (Nat.ne_of_lt hlt) its.toArray, hst rfl, walk_fp hlt, by rw [hlen]; exact hpos, CmpOf.ints_lt (fun k => is.getD k 0) (fun i v hv => int_at rv hv), fun v h' tk hP hk => ?_⟩)
  obtain ⟨t, rfl⟩ := int_at rv hP
  have hb := best_of (f := fun k => is.getD k 0) (r := fun a b => a < b) (fun a => by omega) (fun a b c h1 h2 => by omega) (its.toArray.size - 1)
  rw [hlen] at hb ⊢
  refine ⟨.int _, H, I.kept (walk_old hk), ⟨t, rfl⟩, q _ (getD_in (by omega)) fun x hx => ?_⟩
  obtain ⟨i, hi, rfl⟩ := in_getD hx
  have := hb.2 i (by omega)
  omega
/-- xs.index(k): the first place -/
def rIndexI (K : PySem.W.Frag) : V → List V → Hp → VK → Prop := fun x vs H Q => ∃ (l : Addr) (is : List Int) (k : Int) (j : Nat), x = .ref l ∧ vs = [.int k] ∧ H l = some (.lst (is.map V.int)) ∧ is[j]? = some k ∧ (∀ i, i < j → is[i]? ≠ some k) ∧ Q (.int j) H
theorem mt_indexI : MtM X "list.index" (rIndexI X.K) := by
  intro pins s σ H x vs v us Q I rx rv h
  obtain ⟨l, is, k, j, rfl, rfl, hH, hj, hno, q⟩ := h
  cases rx
  obtain ⟨u, rfl, ru⟩ := rv.one
  obtain ⟨t, rfl⟩ := ru
  obtain ⟨z, its, n, r, hl, e⟩ := I.lstM hH
  have hlen : its.toArray.size = is.length := by
    have := r.length
    rw [List.length_map] at this
    simp [this]
  have hjl : j < is.length := (List.getElem?_eq_some_iff.mp hj).1
  have at_ : ∀ (i : Nat) (hi : i < its.toArray.size), ∃ t, its.toArray[i] = .int (is.getD i 0) t := fun i hi => int_at r (Array.getElem?_eq_getElem hi)
  have hz : is.length ≤ sizeLine := by rw [List.length_map] at z; exact z
  have hsz : sizeLine < 2 ^ 62 := by decide
  refine call_meets F.slot_list_index ⟨_, e, rfl⟩ F.entry_list_index (F.args_list_index_2 _ _)
    (MeetsSeq.list_index l its.toArray n (.int k t) (fun y => match y with | .int i _ => i == k | _ => false) (fun y hy => ?_) j (by rw [hlen]; exact hjl) (by omega) ?_ (fun m hm hmj => ?_)) ⟨e, ⟨.int j, H, I.tok _, ⟨_, rfl⟩, q⟩⟩
  · obtain ⟨i, hi, rfl⟩ := Array.getElem_of_mem hy
    obtain ⟨t', e'⟩ := at_ i hi
    rw [e']
    exact MeetsSeq.EqGives.int _ _ _ _
  · obtain ⟨t', e'⟩ := at_ j (by rw [hlen]; exact hjl)
    rw [e']
    show (is.getD j 0 == k) = true
    rw [List.getD_eq_getElem?_getD, hj]; simp
  · obtain ⟨t', e'⟩ := at_ m hm
    rw [e']
    show (is.getD m 0 == k) = false
    have h1 := hno m hmj
    rw [hlen] at hm
    rw [List.getElem?_eq_getElem hm] at h1
    rw [List.getD_eq_getElem?_getD, List.getElem?_eq_getElem hm]
    exact beq_eq_false_iff_ne.mpr fun z => h1 (by rw [← z]; rfl)
end
end L2
/-! games of so many players, begun rounds: plain mathematics, own work -/
namespace Pa
abbrev Pr := Int × Int
/-- the game of a pair: the lesser player first -/
def nrm (p : Pr) : Pr := (if p.2 < p.1 then p.2 else p.1, if p.2 > p.1 then p.2 else p.1)
/-- the games of player i with the later ones -/
def gamesOf (n i : Nat) : List Pr := (List.range (n - (i + 1))).map fun (j : Nat) => ((i : Int), (((i + 1 : Nat) : Int) + (j : Int)))
def gamesTo (n k : Nat) : List Pr := (List.range k).flatMap (gamesOf n)
def allG (n : Nat) : List Pr := gamesTo n n
/-- t < u of pairs -/
def plt (a b : Pr) : Prop := a.1 < b.1 ∨ (a.1 = b.1 ∧ a.2 < b.2)
theorem plt_irrefl (a : Pr) : ¬ plt a a := by unfold plt; omega
theorem plt_trans {a b c : Pr} (h : plt a b) (h' : plt b c) : plt a c := by unfold plt at *; omega
theorem gamesTo_succ (n k : Nat) : gamesTo n (k + 1) = gamesTo n k ++ gamesOf n k := by
  unfold gamesTo
  rw [List.range_succ, List.flatMap_append, List.flatMap_singleton]
theorem mem_gamesOf {n i : Nat} {p : Pr} : p ∈ gamesOf n i ↔ p.1 = (i : Int) ∧ (i : Int) < p.2 ∧ p.2 < (n : Int) := by
  unfold gamesOf
  rw [List.mem_map]
  constructor
  · rintro ⟨j, hj, rfl⟩
    rw [List.mem_range] at hj
    refine ⟨rfl, ?_, ?_⟩ <;> simp only <;> omega
  · rintro ⟨h1, h2, h3⟩
    refine ⟨(p.2 - (i + 1)).toNat, ?_, ?_⟩
    · rw [List.mem_range]; omega
    · obtain ⟨a, b⟩ := p
      simp only at h1 h2 h3 ⊢
      subst h1
      congr 1
      omega
theorem mem_gamesTo {n k : Nat} {p : Pr} : p ∈ gamesTo n k ↔ 0 ≤ p.1 ∧ p.1 < (k : Int) ∧ p.1 < p.2 ∧ p.2 < (n : Int) := by
  unfold gamesTo
  rw [List.mem_flatMap]
  constructor
  · rintro ⟨i, hi, h⟩
    rw [mem_gamesOf] at h
    rw [List.mem_range] at hi
    omega
  · rintro ⟨h0, h1, h2, h3⟩
    refine ⟨p.1.toNat, ?_, ?_⟩
    · rw [List.mem_range]; omega
    · rw [mem_gamesOf]; omega
theorem mem_allG {n : Nat} {p : Pr} : p ∈ allG n ↔ 0 ≤ p.1 ∧ p.1 < p.2 ∧ p.2 < (n : Int) := by
  unfold allG
  rw [mem_gamesTo]
  omega
theorem gamesOf_sorted (n i : Nat) : (gamesOf n i).Pairwise plt := by
  unfold gamesOf
  rw [List.pairwise_map]
  refine List.Pairwise.imp ?_ List.pairwise_lt_range
  intro a b h
  exact Or.inr ⟨rfl, by show ((i + 1 : Nat) : Int) + (a : Int) < ((i + 1 : Nat) : Int) + (b : Int); omega⟩
theorem gamesTo_sorted (n : Nat) : ∀ k, (gamesTo n k).Pairwise plt
  | 0 => List.Pairwise.nil
  | k + 1 => by
    rw [gamesTo_succ, List.pairwise_append]
    refine ⟨gamesTo_sorted n k, gamesOf_sorted n k, fun a ha b hb => ?_⟩
    rw [mem_gamesTo] at ha
    rw [mem_gamesOf] at hb
    left
    omega
theorem allG_sorted (n : Nat) : (allG n).Pairwise plt := gamesTo_sorted n n
theorem nodup_of_plt {l : List Pr} (h : l.Pairwise plt) : l.Nodup := by
  refine List.Pairwise.imp (fun {a b} (h : plt a b) (e : a = b) => ?_) h
  subst e
  exact plt_irrefl a h
theorem allG_nodup (n : Nat) : (allG n).Nodup := nodup_of_plt (allG_sorted n)
theorem gamesOf_len (n i : Nat) : (gamesOf n i).length = n - (i + 1) := by
  unfold gamesOf
  rw [List.length_map, List.length_range]
theorem gamesTo_len_le (n : Nat) : ∀ k, (gamesTo n k).length ≤ k * n
  | 0 => by simp [gamesTo]
  | k + 1 => by
    have h := gamesTo_len_le n k
    rw [gamesTo_succ, List.length_append, gamesOf_len, Nat.succ_mul]
    omega
theorem allG_len_le {n : Nat} (h : n ≤ 10) : (allG n).length ≤ 100 := by
  have := gamesTo_len_le n n
  have h2 : n * n ≤ 10 * 10 := Nat.mul_le_mul h h
  unfold allG
  omega
/-- a begun round: its games, in their order, some of all -/
def Bg (n : Nat) (bs : List Pr) : Prop := (bs.map nrm).Sublist (allG n)
theorem Bg.len {n : Nat} {bs : List Pr} (h : Bg n bs) (hn : n ≤ 10) : bs.length ≤ 100 := by
  have h1 := h.length_le
  have h2 := allG_len_le hn
  rw [List.length_map] at h1
  omega
theorem nrm_cases (p : Pr) : (p.1 < p.2 ∧ nrm p = (p.1, p.2)) ∨ (p.2 < p.1 ∧ nrm p = (p.2, p.1)) ∨ (p.1 = p.2 ∧ nrm p = (p.1, p.2)) := by
  unfold nrm
  rcases Int.lt_trichotomy p.1 p.2 with h | h | h
  · left
    rw [if_neg (by omega), if_pos h]
    exact ⟨h, rfl⟩
  · right; right
    rw [if_neg (by omega), if_neg (by omega), h]
    exact ⟨rfl, rfl⟩
  · right; left
    rw [if_pos h, if_neg (by omega)]
    exact ⟨h, rfl⟩
theorem nrm_in {n : Nat} {p : Pr} (h : nrm p ∈ allG n) : 0 ≤ p.1 ∧ p.1 < (n : Int) ∧ 0 ≤ p.2 ∧ p.2 < (n : Int) ∧ p.1 ≠ p.2 := by
  rw [mem_allG] at h
  rcases nrm_cases p with ⟨h1, e⟩ | ⟨h1, e⟩ | ⟨h1, e⟩ <;> rw [e] at h <;> simp only at h <;> omega
theorem Bg.mem {n : Nat} {bs : List Pr} (h : Bg n bs) {p : Pr} (hp : p ∈ bs) : 0 ≤ p.1 ∧ p.1 < (n : Int) ∧ 0 ≤ p.2 ∧ p.2 < (n : Int) ∧ p.1 ≠ p.2 :=
  nrm_in (h.subset (List.mem_map.mpr ⟨p, hp, rfl⟩))
theorem Bg.sorted {n : Nat} {bs : List Pr} (h : Bg n bs) : (bs.map nrm).Pairwise plt := (allG_sorted n).sublist h
theorem Bg.sub {n : Nat} {gs bs : List Pr} (h : Bg n gs) (s : bs.Sublist gs) : Bg n bs := (s.map nrm).trans h
/-- one more win for the winner -/
def bump (ws : List Int) (p : Pr) : List Int := ws.set p.1.toNat (ws.getD p.1.toNat 0 + 1)
def winsF (n : Nat) (bs : List Pr) : List Int := bs.foldl bump (List.replicate n 0)
theorem bump_len (ws : List Int) (p : Pr) : (bump ws p).length = ws.length := by unfold bump; rw [List.length_set]
theorem foldl_bump_len : ∀ (bs : List Pr) (ws : List Int), (bs.foldl bump ws).length = ws.length
  | [], _ => rfl
  | p :: r, ws => by rw [List.foldl_cons, foldl_bump_len r, bump_len]
theorem winsF_len (n : Nat) (bs : List Pr) : (winsF n bs).length = n := by unfold winsF; rw [foldl_bump_len, List.length_replicate]
theorem inj_on {α β : Type} {f : α → β} : ∀ {l : List α}, (l.map f).Nodup → ∀ {a b : α}, a ∈ l → b ∈ l → f a = f b → a = b
  | [], _, a, _, h, _, _ => by cases h
  | x :: r, nd, a, b, ha, hb, e => by
    rw [List.map_cons, List.nodup_cons] at nd
    rcases List.mem_cons.mp ha with ha1 | ha1
    · subst ha1
      rcases List.mem_cons.mp hb with hb1 | hb1
      · exact hb1.symm
      · exact absurd (List.mem_map.mpr ⟨b, hb1, e.symm⟩) nd.1
    · rcases List.mem_cons.mp hb with hb1 | hb1
      · subst hb1
        exact absurd (List.mem_map.mpr ⟨a, ha1, e⟩) nd.1
      · exact inj_on nd.2 ha1 hb1 e
/-- the games left of a begun round -/
def leftG (n : Nat) (bs : List Pr) : List Pr := (allG n).filter fun g => !decide (g ∈ bs.map nrm)
theorem left_due {n : Nat} {gs bs : List Pr} (h : gs.map nrm = allG n) (s : bs.Sublist gs) : leftG n bs = (gs.filter fun p => !decide (p ∈ bs)).map nrm := by
  unfold leftG
  rw [← h, List.filter_map]
  congr 1
  refine List.filter_congr fun p hp => ?_
  have nd : (gs.map nrm).Nodup := by rw [h]; exact allG_nodup n
  simp only [Function.comp]
  congr 1
  refine decide_eq_decide.mpr ⟨fun hm => ?_, fun hm => List.mem_map.mpr ⟨p, hm, rfl⟩⟩
  obtain ⟨q, hq, e⟩ := List.mem_map.mp hm
  have e' := inj_on nd (s.subset hq) hp e
  exact e' ▸ hq
theorem left_all {n : Nat} {gs : List Pr} (h : gs.map nrm = allG n) : leftG n gs = [] := by
  unfold leftG
  rw [List.filter_eq_nil_iff]
  intro g hg
  rw [h]
  simp [hg]
end Pa
set_option linter.all false
/-! games dealt out: plain mathematics, own work -/
namespace Pa
/-! ### tables: keys in their order, each once -/
section
variable {κ α : Type} [DecidableEq κ]
def val (d : List (κ × α)) (k : κ) : Option α := (d.find? fun kv => decide (kv.1 = k)).map (·.2)
def put (d : List (κ × α)) (k : κ) (v : α) : List (κ × α) := if (d.any fun kv => decide (kv.1 = k)) = true then d.map (fun kv => if kv.1 = k then (kv.1, v) else kv) else d ++ [(k, v)]
theorem val_nil {k : κ} : val ([] : List (κ × α)) k = none := rfl
theorem val_pos {p : κ × α} {r : List (κ × α)} {k : κ} (e : p.1 = k) : val (p :: r) k = some p.2 := by simp [val, List.find?_cons, e]
theorem val_neg {p : κ × α} {r : List (κ × α)} {k : κ} (e : ¬ p.1 = k) : val (p :: r) k = val r k := by simp [val, List.find?_cons, e]
theorem val_mem {k : κ} {v : α} : ∀ {d : List (κ × α)}, val d k = some v → (k, v) ∈ d
  | [], h => by cases h
  | p :: r, h => by
    by_cases e : p.1 = k
    · rw [val_pos e] at h
      injection h with h
      subst h; subst e
      exact List.mem_cons_self
    · rw [val_neg e] at h
      exact List.mem_cons_of_mem _ (val_mem h)
theorem val_none {k : κ} : ∀ {d : List (κ × α)}, val d k = none ↔ k ∉ d.map (·.1)
  | [] => by simp [val]
  | p :: r => by
    by_cases e : p.1 = k
    · rw [val_pos e]; simp [e]
    · rw [val_neg e, val_none, List.map_cons, List.mem_cons]
      constructor
      · rintro h (h1 | h1)
        · exact e h1.symm
        · exact h h1
      · exact fun h h1 => h (.inr h1)
theorem mem_val {k : κ} {v : α} : ∀ {d : List (κ × α)}, (d.map (·.1)).Nodup → (k, v) ∈ d → val d k = some v
  | [], _, h => by cases h
  | p :: r, nd, h => by
    rw [List.map_cons, List.nodup_cons] at nd
    rcases List.mem_cons.mp h with h1 | h1
    · subst h1; exact val_pos rfl
    · by_cases e : p.1 = k
      · exact absurd (List.mem_map.mpr ⟨_, h1, e.symm⟩) nd.1
      · rw [val_neg e]; exact mem_val nd.2 h1
theorem val_some_of {k : κ} {d : List (κ × α)} (h : k ∈ d.map (·.1)) : ∃ v, val d k = some v := by
  cases e : val d k with
  | none => exact absurd h (val_none.mp e)
  | some v => exact ⟨v, rfl⟩
theorem val_key {k : κ} {v : α} {d : List (κ × α)} (h : val d k = some v) : k ∈ d.map (·.1) := List.mem_map.mpr ⟨_, val_mem h, rfl⟩
theorem any_key {k : κ} {d : List (κ × α)} : (d.any fun kv => decide (kv.1 = k)) = true ↔ k ∈ d.map (·.1) := by
  rw [List.any_eq_true, List.mem_map]
  constructor
  · rintro ⟨x, hx, e⟩; exact ⟨x, hx, of_decide_eq_true e⟩
  · rintro ⟨x, hx, e⟩; exact ⟨x, hx, decide_eq_true e⟩
theorem put_new {k : κ} {v : α} {d : List (κ × α)} (h : k ∉ d.map (·.1)) : put d k v = d ++ [(k, v)] := by
  unfold put; rw [if_neg (fun a => h (any_key.mp a))]
theorem put_old {k : κ} {v : α} {d : List (κ × α)} (h : k ∈ d.map (·.1)) : put d k v = d.map (fun kv => if kv.1 = k then (kv.1, v) else kv) := by
  unfold put; rw [if_pos (any_key.mpr h)]
theorem put_keys_old {k : κ} {v : α} {d : List (κ × α)} (h : k ∈ d.map (·.1)) : (put d k v).map (·.1) = d.map (·.1) := by
  rw [put_old h, List.map_map]
  refine List.map_congr_left fun x _ => ?_
  simp only [Function.comp]
  split <;> rfl
theorem put_keys_new {k : κ} {v : α} {d : List (κ × α)} (h : k ∉ d.map (·.1)) : (put d k v).map (·.1) = d.map (·.1) ++ [k] := by
  rw [put_new h, List.map_append]; rfl
theorem val_map_ne {k j : κ} {v : α} (ne : j ≠ k) : ∀ d : List (κ × α), val (d.map fun kv => if kv.1 = k then (kv.1, v) else kv) j = val d j
  | [] => rfl
  | p :: r => by
    rw [List.map_cons]
    by_cases h : p.1 = k
    · rw [if_pos h, val_neg (p := (p.1, v)) (fun e => ne (e.symm.trans h)), val_neg (fun e => ne (e.symm.trans h)), val_map_ne ne r]
    · rw [if_neg h]
      by_cases e : p.1 = j
      · rw [val_pos e, val_pos e]
      · rw [val_neg e, val_neg e, val_map_ne ne r]
theorem val_app_ne {k j : κ} {v : α} (ne : j ≠ k) : ∀ d : List (κ × α), val (d ++ [(k, v)]) j = val d j
  | [] => val_neg (fun e => ne e.symm)
  | p :: r => by
    rw [List.cons_append]
    by_cases e : p.1 = j
    · rw [val_pos e, val_pos e]
    · rw [val_neg e, val_neg e, val_app_ne ne r]
theorem val_put_ne {k j : κ} {v : α} (ne : j ≠ k) (d : List (κ × α)) : val (put d k v) j = val d j := by
  unfold put
  split
  · exact val_map_ne ne d
  · exact val_app_ne ne d
theorem put_mem {k : κ} {v : α} {d : List (κ × α)} {x : κ × α} (h : x ∈ put d k v) : x ∈ d ∨ x = (k, v) := by
  unfold put at h
  split at h
  · obtain ⟨y, hy, e⟩ := List.mem_map.mp h
    split at e
    · next e1 => subst e1; exact .inr e.symm
    · exact .inl (e ▸ hy)
  · rcases List.mem_append.mp h with h1 | h1
    · exact .inl h1
    · exact .inr (List.mem_singleton.mp h1)
end
/-! ### how many are dealt to a player -/
abbrev Dl := List (Pr × Int)
def one (p q : Int) : Nat := if p = q then 1 else 0
theorem one_self (p : Int) : one p p = 1 := if_pos rfl
theorem one_ne {p q : Int} (h : p ≠ q) : one p q = 0 := if_neg h
def cnt : Dl → Int → Nat
  | [], _ => 0
  | kv :: r, p => one p kv.2 + cnt r p
theorem cnt_app (p : Int) : ∀ a b : Dl, cnt (a ++ b) p = cnt a p + cnt b p
  | [], b => by simp [cnt]
  | x :: r, b => by rw [List.cons_append]; show one p x.2 + cnt (r ++ b) p = one p x.2 + cnt r p + cnt b p; rw [cnt_app p r b]; omega
theorem cnt_map_no {k : Pr} {v : Int} (p : Int) : ∀ d : Dl, k ∉ d.map (·.1) → cnt (d.map fun kv => if kv.1 = k then (kv.1, v) else kv) p = cnt d p
  | [], _ => rfl
  | x :: r, h => by
    rw [List.map_cons, List.mem_cons] at h
    rw [List.map_cons, if_neg (fun e => h (.inl e.symm))]
    show one p x.2 + _ = one p x.2 + _
    rw [cnt_map_no p r (fun e => h (.inr e))]
theorem cnt_map_in {k : Pr} {v o : Int} (p : Int) : ∀ d : Dl, (d.map (·.1)).Nodup → val d k = some o → cnt (d.map fun kv => if kv.1 = k then (kv.1, v) else kv) p + one p o = cnt d p + one p v
  | [], _, h => by cases h
  | x :: r, nd, h => by
    rw [List.map_cons, List.nodup_cons] at nd
    rw [List.map_cons]
    by_cases e : x.1 = k
    · rw [val_pos e] at h
      injection h with h
      rw [if_pos e]
      show one p v + cnt _ p + one p o = one p x.2 + cnt r p + one p v
      rw [cnt_map_no p r (e ▸ nd.1), h]; omega
    · rw [val_neg e] at h
      rw [if_neg e]
      have ih := cnt_map_in (v := v) p r nd.2 h
      show one p x.2 + cnt _ p + one p o = one p x.2 + cnt r p + one p v
      omega
theorem cnt_put_old {d : Dl} {k : Pr} {v o : Int} (nd : (d.map (·.1)).Nodup) (h : val d k = some o) (p : Int) : cnt (put d k v) p + one p o = cnt d p + one p v := by
  rw [put_old (val_key h)]; exact cnt_map_in p d nd h
theorem cnt_put_new {d : Dl} {k : Pr} {v : Int} (h : k ∉ d.map (·.1)) (p : Int) : cnt (put d k v) p = cnt d p + one p v := by
  rw [put_new h, cnt_app]; rfl
/-- the other one of a game -/
def othr (h : Pr) (p : Int) : Int := if p = h.1 then h.2 else h.1
theorem othr_othr {h : Pr} {p : Int} (ne : h.1 ≠ h.2) (hp : p = h.1 ∨ p = h.2) : othr h (othr h p) = p := by
  unfold othr
  rcases hp with e | e
  · rw [if_pos e, if_neg ne.symm, e]
  · have c : ¬ p = h.1 := fun z => ne (z.symm.trans e)
    rw [if_neg c, if_pos rfl, e]
theorem othr_ne {h : Pr} {p : Int} (ne : h.1 ≠ h.2) (hp : p = h.1 ∨ p = h.2) : othr h p ≠ p := by
  unfold othr
  rcases hp with e | e
  · rw [if_pos e, e]; exact ne.symm
  · rw [if_neg (fun z => ne (z.symm.trans e)), e]; exact ne
theorem othr_own (h : Pr) (p : Int) : othr h p = h.1 ∨ othr h p = h.2 := by
  unfold othr; split
  · exact .inr rfl
  · exact .inl rfl
/-- games dealt, each to one of its two -/
structure Good (n : Nat) (d : Dl) : Prop where
  nd : (d.map (·.1)).Nodup
  own : ∀ kv ∈ d, kv.2 = kv.1.1 ∨ kv.2 = kv.1.2
  gm : ∀ kv ∈ d, kv.1 ∈ allG n
theorem Good.val {n : Nat} {d : Dl} (G : Good n d) {h : Pr} {o : Int} (e : val d h = some o) : (o = h.1 ∨ o = h.2) ∧ 0 ≤ h.1 ∧ h.1 < h.2 ∧ h.2 < (n : Int) :=
  ⟨G.own _ (val_mem e), mem_allG.mp (G.gm _ (val_mem e))⟩
/-! ### who can take a game -/
abbrev Tk := List (Int × Pr)
structure TkI (d : Dl) (g : Pr) (T : Tk) (at_ : Nat) : Prop where
  hd : ∃ R, T = (g.1, g) :: (g.2, g) :: R
  nd : (T.map (·.1)).Nodup
  up : ∀ k q h, 2 ≤ k → T[k]? = some (q, h) → ∃ j o h', j < k ∧ T[j]? = some (o, h') ∧ val d h = some o ∧ othr h o = q
  le : at_ ≤ T.length
  done : ∀ j o h', j < at_ → T[j]? = some (o, h') → ∀ h, val d h = some o → othr h o ∈ T.map (·.1)
theorem tk_start {d : Dl} {g : Pr} (ne : g.1 ≠ g.2) : TkI d g [(g.1, g), (g.2, g)] 0 := by
  refine ⟨⟨[], rfl⟩, ?_, ?_, Nat.zero_le _, ?_⟩
  · simp [ne]
  · intro k q h hk e
    have := (List.getElem?_eq_some_iff.mp e).1
    simp at this
    omega
  · intro j o h' hj
    omega
theorem tk_add {d : Dl} {g : Pr} {T : Tk} {a j : Nat} {o : Int} {h h' : Pr} (I : TkI d g T a) (ej : T[j]? = some (o, h')) (ev : val d h = some o) (hn : othr h o ∉ T.map (·.1)) :
    TkI d g (T ++ [(othr h o, h)]) a := by
  obtain ⟨⟨R, hR⟩, nd, up, le, done⟩ := I
  have lt : j < T.length := (List.getElem?_eq_some_iff.mp ej).1
  refine ⟨⟨R ++ [(othr h o, h)], by rw [hR]; rfl⟩, ?_, ?_, by rw [List.length_append]; omega, ?_⟩
  · rw [List.map_append, List.nodup_append]
    refine ⟨nd, by simp, ?_⟩
    intro x hx y hy e
    have hy' : y = othr h o := by simpa using hy
    exact hn (hy' ▸ e ▸ hx)
  · intro k q h2 hk e
    by_cases hkl : k < T.length
    · rw [List.getElem?_append_left hkl] at e
      obtain ⟨j', o', h3, e1, e2, e3⟩ := up k q h2 hk e
      exact ⟨j', o', h3, e1, by rw [List.getElem?_append_left (by omega)]; exact e2, e3⟩
    · have := (List.getElem?_eq_some_iff.mp e).1
      rw [List.length_append] at this
      have ek : k = T.length := by simp at this; omega
      subst ek
      rw [List.getElem?_append_right (Nat.le_refl _), Nat.sub_self] at e
      have e' : (othr h o, h) = (q, h2) := by simpa using e
      injection e' with e1 e2
      subst e1; subst e2
      exact ⟨j, o, h', lt, by rw [List.getElem?_append_left lt]; exact ej, ev, rfl⟩
  · intro k o' h2 hk e h3 ev3
    rw [List.map_append, List.mem_append]
    rw [List.getElem?_append_left (Nat.lt_of_lt_of_le hk le)] at e
    exact .inl (done k o' h2 hk e h3 ev3)
theorem tk_next {d : Dl} {g : Pr} {T : Tk} {a : Nat} {o : Int} {h' : Pr} (I : TkI d g T a) (ea : T[a]? = some (o, h')) (hc : ∀ h, val d h = some o → othr h o ∈ T.map (·.1)) : TkI d g T (a + 1) := by
  obtain ⟨hd, nd, up, le, done⟩ := I
  refine ⟨hd, nd, up, (List.getElem?_eq_some_iff.mp ea).1, fun j o' h2 hj e h3 ev => ?_⟩
  by_cases c : j < a
  · exact done j o' h2 c e h3 ev
  · have : j = a := by omega
    subst this
    rw [ea] at e
    injection e with e
    injection e with e1 e2
    subst e1
    exact hc h3 ev
theorem mem_idx {α : Type} {l : List α} {x : α} (h : x ∈ l) : ∃ i : Nat, l[i]? = some x := List.mem_iff_getElem?.mp h
theorem tk_in {n : Nat} {d : Dl} {g : Pr} {T : Tk} {a : Nat} (G : Good n d) (hg : g ∈ allG n) (I : TkI d g T a) : ∀ p ∈ T.map (·.1), 0 ≤ p ∧ p < (n : Int) := by
  intro p hp
  obtain ⟨⟨q, h⟩, hx, rfl⟩ := List.mem_map.mp hp
  obtain ⟨k, ek⟩ := mem_idx hx
  have hg' := mem_allG.mp hg
  obtain ⟨⟨R, hR⟩, nd, up, le, done⟩ := I
  by_cases c : 2 ≤ k
  · obtain ⟨j, o, h2, _, _, ev, eq⟩ := up k q h c ek
    have := G.val ev
    show 0 ≤ q ∧ q < _
    rcases othr_own h o with e | e <;> rw [eq] at e <;> omega
  · rw [hR] at ek
    have : k = 0 ∨ k = 1 := by omega
    rcases this with rfl | rfl
    · simp at ek; show 0 ≤ q ∧ q < _; omega
    · simp at ek; show 0 ≤ q ∧ q < _; omega
theorem nodup_len : ∀ (n : Nat) (l : List Int), l.Nodup → (∀ p ∈ l, 0 ≤ p ∧ p < (n : Int)) → l.length ≤ n
  | 0, l, _, h => by
    cases l with
    | nil => exact Nat.le_refl _
    | cons x r => have := h x List.mem_cons_self; omega
  | n + 1, l, nd, h => by
    have h1 := nodup_len n (l.filter fun p => decide (p ≠ (n : Int))) (nd.filter _) (fun p hp => by
      rw [List.mem_filter] at hp
      have := h p hp.1
      have := of_decide_eq_true hp.2
      omega)
    have h2 : l.length = (l.filter fun p => decide (p ≠ (n : Int))).length + (l.filter fun p => !decide (p ≠ (n : Int))).length := by
      rw [← List.countP_eq_length_filter, ← List.countP_eq_length_filter]
      rw [List.length_eq_countP_add_countP (fun p => decide (p ≠ (n : Int)))]
      congr 1
      refine List.countP_congr fun x _ => ?_
      simp
    have h3 : (l.filter fun p => !decide (p ≠ (n : Int))).length ≤ 1 := by
      have nd2 := nd.filter (fun p => !decide (p ≠ (n : Int)))
      generalize e : (l.filter fun p => !decide (p ≠ (n : Int))) = m at nd2 ⊢
      match m, e, nd2 with
      | [], _, _ => simp
      | [x], _, _ => simp
      | x :: y :: r, e, nd2 =>
        exfalso
        have hx : x ∈ l.filter fun p => !decide (p ≠ (n : Int)) := by rw [e]; simp
        have hy : y ∈ l.filter fun p => !decide (p ≠ (n : Int)) := by rw [e]; simp
        rw [List.mem_filter] at hx hy
        have ex : x = (n : Int) := by simpa using hx.2
        have ey : y = (n : Int) := by simpa using hy.2
        rw [List.pairwise_cons] at nd2
        exact nd2.1 y List.mem_cons_self (ex.trans ey.symm)
    omega
theorem tk_len {n : Nat} {d : Dl} {g : Pr} {T : Tk} {a : Nat} (G : Good n d) (hg : g ∈ allG n) (I : TkI d g T a) : T.length ≤ n := by
  have := nodup_len n (T.map (·.1)) I.nd (tk_in G hg I)
  rwa [List.length_map] at this
/-! ### handing on -/
structure HdI (d0 : Dl) (T : Tk) (last : Int) (d : Dl) (k : Nat) (q : Int) : Prop where
  at_ : ∃ h, T[k]? = some (q, h)
  keys : d.map (·.1) = d0.map (·.1)
  own : ∀ kv ∈ d, kv.2 = kv.1.1 ∨ kv.2 = kv.1.2
  same : ∀ i q' h, 2 ≤ i → i ≤ k → T[i]? = some (q', h) → val d h = val d0 h
  cn : ∀ p, cnt d p + one p q = cnt d0 p + one p last
theorem hd_start {n : Nat} {d0 : Dl} {T : Tk} {k : Nat} {last : Int} {h : Pr} (G : Good n d0) (e : T[k]? = some (last, h)) : HdI d0 T last d0 k last :=
  ⟨⟨h, e⟩, rfl, G.own, fun _ _ _ _ _ _ => rfl, fun _ => rfl⟩
theorem nd_idx {T : Tk} (nd : (T.map (·.1)).Nodup) {i k : Nat} {q : Int} {h h' : Pr} (ei : T[i]? = some (q, h)) (ek : T[k]? = some (q, h')) : i = k := by
  have hi : i < (T.map (·.1)).length := by rw [List.length_map]; exact (List.getElem?_eq_some_iff.mp ei).1
  refine (List.getElem?_inj hi nd).mp ?_
  rw [List.getElem?_map, List.getElem?_map, ei, ek]; rfl
theorem hd_step {n : Nat} {d0 : Dl} {g : Pr} {T : Tk} {a : Nat} {last : Int} {d : Dl} {k : Nat} {q : Int} {h : Pr} (G : Good n d0) (I : TkI d0 g T a) (J : HdI d0 T last d k q) (e : T[k]? = some (q, h)) (ne : h ≠ g) :
    ∃ k', k' < k ∧ HdI d0 T last (put d h q) k' (othr h q) := by
  have hk : 2 ≤ k := by
    obtain ⟨R, hR⟩ := I.hd
    rw [hR] at e
    by_cases c : 2 ≤ k
    · exact c
    · exfalso
      have : k = 0 ∨ k = 1 := by omega
      rcases this with rfl | rfl <;> simp at e <;> exact ne e.2.symm
  obtain ⟨j, o, h', hj, ej, ev, eq⟩ := I.up k q h hk e
  have Gv := G.val ev
  have hne : h.1 ≠ h.2 := by omega
  have evd : val d h = some o := by rw [J.same k q h hk (Nat.le_refl _) e]; exact ev
  have eo : othr h q = o := by rw [← eq]; exact othr_othr hne Gv.1
  have nd : (d.map (·.1)).Nodup := by rw [J.keys]; exact G.nd
  refine ⟨j, hj, ?_⟩
  rw [eo]
  refine ⟨⟨h', ej⟩, ?_, ?_, ?_, ?_⟩
  · rw [put_keys_old (val_key evd)]; exact J.keys
  · intro kv hkv
    rcases put_mem hkv with h1 | h1
    · exact J.own kv h1
    · subst h1
      show q = h.1 ∨ q = h.2
      rw [← eq]; exact othr_own h o
  · intro i q' h2 h2i hij ei
    have hh : h2 ≠ h := by
      intro z
      subst z
      obtain ⟨_, o', _, _, _, ev', eq'⟩ := I.up i q' h2 h2i ei
      rw [ev] at ev'
      injection ev' with ev'
      rw [← ev', eq] at eq'
      subst eq'
      have := nd_idx I.nd ei e
      omega
    rw [val_put_ne hh]
    exact J.same i q' h2 h2i (by omega) ei
  · intro p
    have h1 := cnt_put_old (v := q) nd evd p
    have h2 := J.cn p
    omega
theorem hd_end {n : Nat} {d0 : Dl} {g : Pr} {T : Tk} {a : Nat} {last : Int} {d : Dl} {k : Nat} {q : Int} (G : Good n d0) (hg : g ∈ allG n) (gn : g ∉ d0.map (·.1)) (I : TkI d0 g T a) (J : HdI d0 T last d k q) (e : T[k]? = some (q, g)) :
    Good n (put d g q) ∧ (put d g q).map (·.1) = d0.map (·.1) ++ [g] ∧ ∀ p, cnt (put d g q) p = cnt d0 p + one p last := by
  have hn : g ∉ d.map (·.1) := by rw [J.keys]; exact gn
  have eq : q = g.1 ∨ q = g.2 := by
    by_cases c : 2 ≤ k
    · obtain ⟨_, o, _, _, _, ev, _⟩ := I.up k q g c e
      exact absurd (val_key ev) gn
    · obtain ⟨R, hR⟩ := I.hd
      rw [hR] at e
      have : k = 0 ∨ k = 1 := by omega
      rcases this with rfl | rfl <;> simp at e
      · exact .inl e.symm
      · exact .inr e.symm
  have ek : (put d g q).map (·.1) = d0.map (·.1) ++ [g] := by rw [put_keys_new hn, J.keys]
  refine ⟨⟨?_, ?_, ?_⟩, ek, fun p => ?_⟩
  · rw [ek, List.nodup_append]
    refine ⟨G.nd, by simp, fun x hx y hy z => ?_⟩
    rw [List.mem_singleton] at hy
    exact gn (hy ▸ z ▸ hx)
  · intro kv hkv
    rcases put_mem hkv with h1 | h1
    · exact J.own kv h1
    · subst h1; exact eq
  · intro kv hkv
    rcases put_mem hkv with h1 | h1
    · have : kv.1 ∈ d0.map (·.1) := by rw [← J.keys]; exact List.mem_map.mpr ⟨kv, h1, rfl⟩
      obtain ⟨x, hx, ex⟩ := List.mem_map.mp this
      rw [← ex]; exact G.gm x hx
    · subst h1; exact hg
  · have h1 := cnt_put_new (v := q) hn p
    have h2 := J.cn p
    omega
/-! ### the whole dealing -/
def sumOn (f : Int → Int) : List Int → Int
  | [] => 0
  | p :: r => f p + sumOn f r
theorem sumOn_congr {f g : Int → Int} : ∀ {l : List Int}, (∀ p ∈ l, f p = g p) → sumOn f l = sumOn g l
  | [], _ => rfl
  | p :: r, h => by
    show f p + sumOn f r = g p + sumOn g r
    rw [h p List.mem_cons_self, sumOn_congr fun x hx => h x (List.mem_cons_of_mem _ hx)]
theorem sumOn_add (f g : Int → Int) : ∀ l : List Int, sumOn (fun p => f p + g p) l = sumOn f l + sumOn g l
  | [] => rfl
  | p :: r => by
    show f p + g p + sumOn _ r = f p + sumOn f r + (g p + sumOn g r)
    rw [sumOn_add f g r]; omega
theorem sumOn_one (q : Int) : ∀ {l : List Int}, l.Nodup → sumOn (fun p => (one p q : Int)) l = if q ∈ l then 1 else 0
  | [], _ => rfl
  | p :: r, nd => by
    rw [List.nodup_cons] at nd
    show (one p q : Int) + sumOn _ r = _
    rw [sumOn_one q nd.2]
    by_cases e : p = q
    · subst e
      rw [one_self, if_neg nd.1, if_pos List.mem_cons_self]; rfl
    · rw [one_ne e]
      by_cases c : q ∈ r
      · rw [if_pos c, if_pos (List.mem_cons_of_mem _ c)]; rfl
      · rw [if_neg c, if_neg (fun h => (List.mem_cons.mp h).elim (fun z => e z.symm) c)]; rfl
theorem sumOn_zero : ∀ l : List Int, sumOn (fun _ => 0) l = 0
  | [] => rfl
  | p :: r => by show (0 : Int) + sumOn _ r = 0; rw [sumOn_zero r]; rfl
/-- what some hold together -/
theorem sum_cnt {S : List Int} (nd : S.Nodup) : ∀ d : Dl, sumOn (fun p => (cnt d p : Int)) S = ((d.filter fun kv => decide (kv.2 ∈ S)).length : Int)
  | [] => sumOn_zero S
  | kv :: r => by
    have h1 : sumOn (fun p => (cnt (kv :: r) p : Int)) S = sumOn (fun p => (one p kv.2 : Int) + (cnt r p : Int)) S := sumOn_congr fun p _ => by
      show ((one p kv.2 + cnt r p : Nat) : Int) = _
      omega
    rw [h1, sumOn_add, sumOn_one kv.2 nd, sum_cnt nd r, List.filter_cons]
    by_cases c : kv.2 ∈ S
    · rw [if_pos c, decide_eq_true c, if_pos rfl, List.length_cons]; omega
    · rw [if_neg c, decide_eq_false c, if_neg (by simp)]; omega
/-- games among some -/
def within (S : List Int) (l : List Pr) : List Pr := l.filter fun h => decide (h.1 ∈ S) && decide (h.2 ∈ S)
def nth (l : List Int) (p : Int) : Int := l.getD p.toNat 0
structure DlI (n : Nat) (room : List Int) (left : List Pr) (i : Nat) (d : Dl) (spare : List Int) : Prop where
  good : Good n d
  keys : d.map (·.1) = left.take i
  len : spare.length = n
  sp : ∀ p : Int, 0 ≤ p → p < (n : Int) → nth spare p + (cnt d p : Int) = nth room p
  pos : ∀ p : Int, 0 ≤ p → p < (n : Int) → 0 ≤ nth spare p
theorem dl_start {n : Nat} {room : List Int} {left : List Pr} (hl : room.length = n) (h0 : ∀ p : Int, 0 ≤ p → p < (n : Int) → 0 ≤ nth room p) : DlI n room left 0 [] room :=
  ⟨⟨by simp, by simp, by simp⟩, by simp, hl, fun p _ _ => by show _ + ((0 : Nat) : Int) = _; omega, h0⟩
theorem nth_set {l : List Int} {q p v : Int} (hq : 0 ≤ q) (hp : 0 ≤ p) (hl : q < (l.length : Int)) : nth (l.set q.toNat v) p = if p = q then v else nth l p := by
  unfold nth
  rw [List.getD_eq_getElem?_getD, List.getD_eq_getElem?_getD]
  by_cases c : p = q
  · subst c
    rw [if_pos rfl, List.getElem?_set_self (by omega)]; rfl
  · rw [if_neg c, List.getElem?_set_ne (by omega)]
theorem dl_step {n : Nat} {room : List Int} {left : List Pr} {i : Nat} {d d' : Dl} {spare : List Int} {g : Pr} {q : Int} (I : DlI n room left i d spare) (eg : left[i]? = some g) (hq : 0 ≤ q ∧ q < (n : Int)) (hs : 0 < nth spare q)
    (G : Good n d') (hk : d'.map (·.1) = d.map (·.1) ++ [g]) (hc : ∀ p, cnt d' p = cnt d p + one p q) : DlI n room left (i + 1) d' (spare.set q.toNat (nth spare q - 1)) := by
  have lt := (List.getElem?_eq_some_iff.mp eg).1
  refine ⟨G, ?_, by rw [List.length_set]; exact I.len, fun p h0 h1 => ?_, fun p h0 h1 => ?_⟩
  · rw [hk, I.keys, List.take_add_one, eg]; rfl
  · rw [nth_set hq.1 h0 (by rw [I.len]; exact hq.2), hc p]
    have := I.sp p h0 h1
    by_cases c : p = q
    · subst c; rw [if_pos rfl, one_self]; omega
    · rw [if_neg c, one_ne c]; omega
  · rw [nth_set hq.1 h0 (by rw [I.len]; exact hq.2)]
    have := I.pos p h0 h1
    by_cases c : p = q
    · rw [if_pos c]; omega
    · rw [if_neg c]; exact this
theorem within_take {S : List Int} {left : List Pr} (i : Nat) : (within S (left.take i)).length ≤ (within S left).length := by
  unfold within
  exact ((List.take_sublist i left).filter _).length_le
/-- stuck: more games are left among them than they have room for -/
theorem dl_stuck {n : Nat} {room : List Int} {left : List Pr} {i : Nat} {d : Dl} {spare : List Int} {g : Pr} {T : Tk} {S : List Int} (I : DlI n room left i d spare) (eg : left[i]? = some g) (hg : g ∈ allG n)
    (J : TkI d g T T.length) (hz : ∀ p ∈ T.map (·.1), ¬ 0 < nth spare p) (nd : S.Nodup) (hS : ∀ p, p ∈ S ↔ p ∈ T.map (·.1)) : sumOn (nth room) S < ((within S left).length : Int) := by
  have hin := tk_in I.good hg J
  have h1 : sumOn (nth room) S = sumOn (fun p => (cnt d p : Int)) S := sumOn_congr fun p hp => by
    have hp' := (hS p).mp hp
    have a := hin p hp'
    have b := I.sp p a.1 a.2
    have c := I.pos p a.1 a.2
    have e := hz p hp'
    omega
  rw [h1, sum_cnt nd]
  have h2 : (d.filter fun kv => decide (kv.2 ∈ S)).length ≤ (within S (d.map (·.1))).length := by
    unfold within
    rw [List.filter_map, List.length_map]
    rw [← List.countP_eq_length_filter, ← List.countP_eq_length_filter]
    refine List.countP_mono_left fun kv hkv hc => ?_
    have hc' := (hS _).mp (of_decide_eq_true hc)
    obtain ⟨⟨o, h'⟩, hx, eo⟩ := List.mem_map.mp hc'
    obtain ⟨j, ej⟩ := mem_idx hx
    have ev : val d kv.1 = some o := by rw [mem_val I.good.nd (k := kv.1) (v := kv.2) hkv, ← eo]
    have ho := J.done j o h' (List.getElem?_eq_some_iff.mp ej).1 ej kv.1 ev
    have hG := I.good.val ev
    have eo' : o = kv.2 := eo
    have a1 : o ∈ S := (hS o).mpr (eo' ▸ hc')
    have a2 : othr kv.1 o ∈ S := (hS _).mpr ho
    show (decide (kv.1.1 ∈ S) && decide (kv.1.2 ∈ S)) = true
    unfold othr at a2
    rcases hG.1 with e | e
    · rw [if_pos e] at a2
      rw [e] at a1
      simp [a1, a2]
    · have c : ¬ o = kv.1.1 := by omega
      rw [if_neg c] at a2
      rw [e] at a1
      simp [a1, a2]
  rw [I.keys] at h2
  have h3 : (within S (left.take (i + 1))).length = (within S (left.take i)).length + 1 := by
    unfold within
    rw [List.take_add_one, eg, List.filter_append, List.length_append]
    have : g.1 ∈ S ∧ g.2 ∈ S := by
      obtain ⟨R, hR⟩ := J.hd
      rw [hS, hS, hR]; simp
    simp [this.1, this.2]
  have h4 := within_take (S := S) (left := left) (i + 1)
  omega
/-! ### the round that comes of it -/
def rng (n : Nat) : List Int := (List.range n).map fun (i : Nat) => (i : Int)
theorem mem_rng {n : Nat} {p : Int} : p ∈ rng n ↔ 0 ≤ p ∧ p < (n : Int) := by
  unfold rng
  rw [List.mem_map]
  constructor
  · rintro ⟨i, hi, rfl⟩
    rw [List.mem_range] at hi
    omega
  · rintro ⟨h0, h1⟩
    exact ⟨p.toNat, List.mem_range.mpr (by omega), by omega⟩
theorem rng_nodup (n : Nat) : (rng n).Nodup := by
  unfold rng
  rw [List.Nodup, List.pairwise_map]
  refine List.Pairwise.imp ?_ List.nodup_range
  intro a b h e
  exact h (by omega)
/-- how many games a player won -/
def cw (l : List Pr) (p : Int) : Nat := l.countP fun b => decide (b.1 = p)
theorem nth_winsF {n : Nat} {p : Int} (h0 : 0 ≤ p) (h1 : p < (n : Int)) : ∀ (bs : List Pr) (ws : List Int), ws.length = n → (∀ b ∈ bs, 0 ≤ b.1 ∧ b.1 < (n : Int)) → nth (bs.foldl bump ws) p = nth ws p + (cw bs p : Int)
  | [], ws, _, _ => by show nth ws p = nth ws p + ((0 : Nat) : Int); omega
  | b :: r, ws, hl, hb => by
    have hb1 := hb b List.mem_cons_self
    rw [List.foldl_cons, nth_winsF h0 h1 r (bump ws b) (by rw [bump_len]; exact hl) fun x hx => hb x (List.mem_cons_of_mem _ hx)]
    unfold bump cw
    rw [nth_set hb1.1 h0 (by rw [hl]; exact hb1.2), List.countP_cons]
    by_cases c : p = b.1
    · subst c
      rw [if_pos rfl, if_pos (by simp)]
      show ws.getD b.1.toNat 0 + 1 + _ = ws.getD b.1.toNat 0 + _
      omega
    · rw [if_neg c, if_neg (by simp; exact fun e => c e.symm)]
      omega
theorem nth_wins {n : Nat} {p : Int} (h0 : 0 ≤ p) (h1 : p < (n : Int)) {bs : List Pr} (hb : ∀ b ∈ bs, 0 ≤ b.1 ∧ b.1 < (n : Int)) : nth (winsF n bs) p = (cw bs p : Int) := by
  unfold winsF
  rw [nth_winsF h0 h1 bs _ List.length_replicate hb]
  have : nth (List.replicate n 0) p = 0 := by
    unfold nth
    rw [List.getD_eq_getElem?_getD, List.getElem?_replicate]
    split <;> rfl
  omega
theorem list_ext {a b : List Int} {n : Nat} (ha : a.length = n) (hb : b.length = n) (h : ∀ p : Int, 0 ≤ p → p < (n : Int) → nth a p = nth b p) : a = b := by
  refine List.ext_getElem (ha.trans hb.symm) fun i h1 h2 => ?_
  have := h (i : Int) (by omega) (by omega)
  unfold nth at this
  rw [Int.toNat_natCast, List.getD_eq_getElem?_getD, List.getD_eq_getElem?_getD, List.getElem?_eq_getElem h1, List.getElem?_eq_getElem h2] at this
  exact this
theorem cw_sum {n : Nat} : ∀ {bs : List Pr}, (∀ b ∈ bs, 0 ≤ b.1 ∧ b.1 < (n : Int)) → sumOn (fun p => (cw bs p : Int)) (rng n) = (bs.length : Int)
  | [], _ => sumOn_zero _
  | b :: r, hb => by
    have h1 : sumOn (fun p => (cw (b :: r) p : Int)) (rng n) = sumOn (fun p => (one p b.1 : Int) + (cw r p : Int)) (rng n) := sumOn_congr fun p _ => by
      unfold cw one
      rw [List.countP_cons]
      by_cases c : p = b.1
      · rw [if_pos c, if_pos (by simp [c])]; omega
      · rw [if_neg c, if_neg (by simp; exact fun e => c e.symm)]; omega
    rw [h1, sumOn_add, sumOn_one _ (rng_nodup n), cw_sum fun x hx => hb x (List.mem_cons_of_mem _ hx), if_pos (mem_rng.mpr (hb b List.mem_cons_self)), List.length_cons]
    omega
theorem cnt_sum {n : Nat} {d : Dl} (G : Good n d) : sumOn (fun p => (cnt d p : Int)) (rng n) = (d.length : Int) := by
  rw [sum_cnt (rng_nodup n)]
  congr 2
  rw [List.filter_eq_self]
  intro kv hkv
  refine decide_eq_true (mem_rng.mpr ?_)
  have a := G.own kv hkv
  have b := mem_allG.mp (G.gm kv hkv)
  rcases a with a | a <;> omega
theorem sum_zero {f : Int → Int} : ∀ {l : List Int}, (∀ p ∈ l, 0 ≤ f p) → sumOn f l ≤ 0 → ∀ p ∈ l, f p = 0
  | [], _, _, p, hp => by cases hp
  | x :: r, h0, hs, p, hp => by
    have hr : ∀ l : List Int, (∀ p ∈ l, 0 ≤ f p) → 0 ≤ sumOn f l := by
      intro l
      induction l with
      | nil => intro _; exact Int.le_refl 0
      | cons y t ih =>
        intro h
        have a := h y List.mem_cons_self
        have b := ih fun z hz => h z (List.mem_cons_of_mem _ hz)
        show 0 ≤ f y + sumOn f t
        omega
    have a := h0 x List.mem_cons_self
    have b := hr r fun z hz => h0 z (List.mem_cons_of_mem _ hz)
    have c : f x + sumOn f r ≤ 0 := hs
    rcases List.mem_cons.mp hp with e | e
    · subst e; omega
    · exact sum_zero (fun z hz => h0 z (List.mem_cons_of_mem _ hz)) (by omega) p e
theorem sumOn_sub (f g : Int → Int) : ∀ l : List Int, sumOn (fun p => f p - g p) l = sumOn f l - sumOn g l
  | [] => rfl
  | p :: r => by
    show f p - g p + sumOn _ r = f p + sumOn f r - (g p + sumOn g r)
    rw [sumOn_sub f g r]; omega
/-- all games: the begun ones and those that are left -/
theorem all_parts {n : Nat} {bs : List Pr} (B : Bg n bs) {ks : List Pr} (nd : ks.Nodup) (hk : ∀ g, g ∈ ks ↔ g ∈ leftG n bs) : (allG n).Perm (bs.map nrm ++ ks) := by
  have ndb : (bs.map nrm).Nodup := (allG_nodup n).sublist B
  have dis : ∀ x ∈ bs.map nrm, ∀ y ∈ ks, x ≠ y := by
    intro x hx y hy e
    subst e
    rw [hk] at hy
    unfold leftG at hy
    rw [List.mem_filter] at hy
    have := hy.2
    simp only [Bool.not_eq_true', decide_eq_false_iff_not] at this
    exact this hx
  refine (List.perm_ext_iff_of_nodup (allG_nodup n) (List.nodup_append.mpr ⟨ndb, nd, dis⟩)).mpr fun g => ?_
  rw [List.mem_append, hk]
  unfold leftG
  rw [List.mem_filter]
  constructor
  · intro h
    by_cases c : g ∈ bs.map nrm
    · exact .inl c
    · exact .inr ⟨h, by simp only [Bool.not_eq_true', decide_eq_false_iff_not]; exact c⟩
  · rintro (h | h)
    · exact B.subset h
    · exact h.1
/-- the pair of a game and its winner -/
def pairOf (g : Pr) (o : Int) : Pr := if o = g.1 then g else (g.2, g.1)
theorem pairOf_fst {g : Pr} {o : Int} (h : o = g.1 ∨ o = g.2) : (pairOf g o).1 = o := by
  unfold pairOf
  split
  · next e => exact e.symm
  · next e => rcases h with h | h
              · exact absurd h e
              · exact h.symm
theorem pairOf_nrm {n : Nat} {g : Pr} {o : Int} (h : g ∈ allG n) : nrm (pairOf g o) = g := by
  have := mem_allG.mp h
  unfold pairOf
  split
  · rcases nrm_cases g with ⟨_, e⟩ | ⟨_, _⟩ | ⟨_, _⟩
    · exact e
    · omega
    · omega
  · rcases nrm_cases (g.2, g.1) with ⟨c, _⟩ | ⟨_, e⟩ | ⟨c, _⟩
    · simp only at c; omega
    · exact e
    · simp only at c; omega
theorem pairOf_self {n : Nat} {b : Pr} (h : nrm b ∈ allG n) : pairOf (nrm b) b.1 = b := by
  have := nrm_in h
  unfold pairOf
  rcases nrm_cases b with ⟨c, e⟩ | ⟨c, e⟩ | ⟨c, e⟩
  · rw [e, if_pos rfl]
  · rw [e, if_neg (by simp only; omega)]
  · omega
/-- a round by a table of winners -/
structure Made (n : Nat) (bs : List Pr) (d : Dl) (win : Pr → Int) : Prop where
  bg : Bg n bs
  good : Good n d
  keys : ∀ g, g ∈ d.map (·.1) ↔ g ∈ leftG n bs
  wb : ∀ b ∈ bs, win (nrm b) = b.1
  wd : ∀ kv ∈ d, win kv.1 = kv.2
def roundBy (n : Nat) (win : Pr → Int) : List Pr := (allG n).map fun g => pairOf g (win g)
theorem roundBy_nrm (n : Nat) (win : Pr → Int) : (roundBy n win).map nrm = allG n := by
  unfold roundBy
  rw [List.map_map]
  have : ∀ g ∈ allG n, (nrm ∘ fun g => pairOf g (win g)) g = g := fun g hg => pairOf_nrm hg
  rw [List.map_congr_left this, List.map_id']
theorem Made.own {n : Nat} {bs : List Pr} {d : Dl} {win : Pr → Int} (M : Made n bs d win) {g : Pr} (hg : g ∈ allG n) : win g = g.1 ∨ win g = g.2 := by
  by_cases c : g ∈ bs.map nrm
  · obtain ⟨b, hb, rfl⟩ := List.mem_map.mp c
    rw [M.wb b hb]
    rcases nrm_cases b with ⟨_, e⟩ | ⟨_, e⟩ | ⟨_, e⟩ <;> rw [e] <;> simp
  · have : g ∈ leftG n bs := by
      unfold leftG
      rw [List.mem_filter]
      exact ⟨hg, by simp only [Bool.not_eq_true', decide_eq_false_iff_not]; exact c⟩
    obtain ⟨kv, hkv, e⟩ := List.mem_map.mp ((M.keys g).mpr this)
    subst e
    rw [M.wd kv hkv]
    exact M.good.own kv hkv
theorem Made.has {n : Nat} {bs : List Pr} {d : Dl} {win : Pr → Int} (M : Made n bs d win) {b : Pr} (hb : b ∈ bs) : b ∈ roundBy n win := by
  have h : nrm b ∈ allG n := M.bg.subset (List.mem_map.mpr ⟨b, hb, rfl⟩)
  refine List.mem_map.mpr ⟨nrm b, h, ?_⟩
  rw [M.wb b hb]; exact pairOf_self h
theorem cnt_countP (p : Int) : ∀ d : Dl, cnt d p = d.countP fun kv => decide (kv.2 = p)
  | [] => rfl
  | kv :: r => by
    rw [List.countP_cons, ← cnt_countP p r]
    show one p kv.2 + _ = _
    unfold one
    by_cases c : p = kv.2
    · rw [if_pos c, if_pos (by simp [c])]; omega
    · rw [if_neg c, if_neg (by simp; exact fun e => c e.symm)]; omega
theorem Made.wins {n : Nat} {bs : List Pr} {d : Dl} {win : Pr → Int} (M : Made n bs d win) (p : Int) : cw (roundBy n win) p = cw bs p + cnt d p := by
  unfold cw roundBy
  rw [List.countP_map]
  have h1 : (allG n).countP ((fun b : Pr => decide (b.1 = p)) ∘ fun g => pairOf g (win g)) = (allG n).countP fun g => decide (win g = p) := by
    refine List.countP_congr fun g hg => ?_
    simp only [Function.comp, pairOf_fst (M.own hg)]
  rw [h1, (all_parts M.bg M.good.nd M.keys).countP_eq, List.countP_append, List.countP_map, List.countP_map, cnt_countP]
  congr 1
  · refine List.countP_congr fun b hb => ?_
    simp only [Function.comp, M.wb b hb]
  · refine List.countP_congr fun kv hkv => ?_
    simp only [Function.comp, M.wd kv hkv]
/-- all wins together are as many as games: no room is left -/
theorem Made.full {n : Nat} {bs : List Pr} {d : Dl} {win : Pr → Int} (M : Made n bs d win) {wins : List Int} (hs : sumOn (nth wins) (rng n) = ((allG n).length : Int))
    (hr : ∀ p : Int, 0 ≤ p → p < (n : Int) → (cnt d p : Int) ≤ nth wins p - (cw bs p : Int)) (p : Int) (h0 : 0 ≤ p) (h1 : p < (n : Int)) : (cw (roundBy n win) p : Int) = nth wins p := by
  have hl := (all_parts M.bg M.good.nd M.keys).length_eq
  rw [List.length_append, List.length_map, List.length_map] at hl
  have hb : ∀ b ∈ bs, 0 ≤ b.1 ∧ b.1 < (n : Int) := fun b hb => ⟨(M.bg.mem hb).1, (M.bg.mem hb).2.1⟩
  have e : sumOn (fun p => nth wins p - (cw bs p : Int) - (cnt d p : Int)) (rng n) = 0 := by
    rw [sumOn_sub, sumOn_sub, hs, cw_sum hb, cnt_sum M.good]; omega
  have z := sum_zero (f := fun p => nth wins p - (cw bs p : Int) - (cnt d p : Int)) (l := rng n) (fun p hp => by
    have := mem_rng.mp hp
    have := hr p this.1 this.2
    omega) (by rw [e]; exact Int.le_refl 0) p (mem_rng.mpr ⟨h0, h1⟩)
  have := M.wins p
  omega
end Pa
set_option linter.all false
/-! rounds with all games: plain mathematics, own work -/
namespace Pa
/-- a round: each game once, in order -/
def Rd (n : Nat) (gs : List Pr) : Prop := gs.map nrm = allG n
theorem nrm_swap (i j : Int) : nrm (i, j) = nrm (j, i) := by
  unfold nrm
  simp only
  rcases Int.lt_trichotomy i j with h | h | h
  · rw [if_neg (by omega), if_pos (by omega), if_pos h, if_neg (by omega)]
  · subst h; rfl
  · rw [if_pos h, if_neg (by omega), if_neg (by omega), if_pos h]
theorem nrm_two {p : Pr} {i j : Int} (h : nrm p = nrm (i, j)) : p = (i, j) ∨ p = (j, i) := by
  obtain ⟨a, b⟩ := p
  rcases nrm_cases (a, b) with ⟨h1, e⟩ | ⟨h1, e⟩ | ⟨h1, e⟩ <;> rcases nrm_cases (i, j) with ⟨h2, e'⟩ | ⟨h2, e'⟩ | ⟨h2, e'⟩ <;>
    rw [e, e'] at h <;> simp only [Prod.mk.injEq] at h h1 h2 ⊢ <;> omega
section
variable {n : Nat} {gs : List Pr}
theorem Rd.bg (h : Rd n gs) : Bg n gs := by unfold Bg; rw [h]; exact List.Sublist.refl _
theorem Rd.of (h : Bg n gs) (l : gs.length = (allG n).length) : Rd n gs := h.eq_of_length (by rw [List.length_map]; exact l)
theorem Rd.len (h : Rd n gs) : gs.length = (allG n).length := by rw [← h, List.length_map]
theorem Rd.nd (h : Rd n gs) : gs.Nodup := by
  have := allG_nodup n
  rw [← h, List.Nodup, List.pairwise_map] at this
  exact List.Pairwise.imp (fun h e => h (congrArg nrm e)) this
theorem Rd.tot (h : Rd n gs) {i j : Int} (hi : i ∈ rng n) (hj : j ∈ rng n) (ne : i ≠ j) : (i, j) ∈ gs ∨ (j, i) ∈ gs := by
  rw [mem_rng] at hi hj
  have hm : nrm (i, j) ∈ gs.map nrm := by
    rw [h, mem_allG]
    rcases nrm_cases (i, j) with ⟨h1, e⟩ | ⟨h1, e⟩ | ⟨h1, e⟩ <;> rw [e] <;> simp only at h1 ⊢ <;> omega
  obtain ⟨p, hp, e⟩ := List.mem_map.mp hm
  rcases nrm_two e with e | e
  · exact .inl (e ▸ hp)
  · exact .inr (e ▸ hp)
theorem Rd.ne (h : Rd n gs) {i j : Int} (a : (i, j) ∈ gs) : i ≠ j := (h.bg.mem a).2.2.2.2
theorem Rd.anti (h : Rd n gs) {i j : Int} (a : (i, j) ∈ gs) (b : (j, i) ∈ gs) : False := by
  have nd : (gs.map nrm).Nodup := by rw [h]; exact allG_nodup n
  have e := inj_on nd a b (nrm_swap i j)
  injection e with e1 e2
  exact h.ne a e1
theorem Rd.l (h : Rd n gs) {i j : Int} (a : (i, j) ∈ gs) : i ∈ rng n := mem_rng.mpr ⟨(h.bg.mem a).1, (h.bg.mem a).2.1⟩
theorem Rd.r (h : Rd n gs) {i j : Int} (a : (i, j) ∈ gs) : j ∈ rng n := mem_rng.mpr ⟨(h.bg.mem a).2.2.1, (h.bg.mem a).2.2.2.1⟩
theorem Rd.not (h : Rd n gs) {i j : Int} (hi : i ∈ rng n) (hj : j ∈ rng n) (ne : i ≠ j) : (i, j) ∉ gs ↔ (j, i) ∈ gs :=
  ⟨fun a => (h.tot hi hj ne).resolve_left a, fun b a => h.anti a b⟩
end
theorem sub_len {α : Type} [DecidableEq α] : ∀ {l m : List α}, l.Nodup → (∀ x ∈ l, x ∈ m) → l.length ≤ m.length
  | [], _, _, _ => Nat.zero_le _
  | x :: r, m, nd, h => by
    rw [List.nodup_cons] at nd
    have h1 := sub_len (l := r) (m := m.erase x) nd.2 fun y hy => (List.mem_erase_of_ne (fun (e : y = x) => nd.1 (e ▸ hy))).mpr (h y (List.mem_cons_of_mem _ hy))
    have h2 := List.length_erase_of_mem (h x List.mem_cons_self)
    have h3 := List.length_pos_of_mem (h x List.mem_cons_self)
    rw [List.length_cons]
    omega
theorem rng_succ (n : Nat) : rng (n + 1) = rng n ++ [(n : Int)] := by unfold rng; rw [List.range_succ, List.map_append]; rfl
theorem rng_len (n : Nat) : (rng n).length = n := by unfold rng; rw [List.length_map, List.length_range]
theorem rng_lt (n : Nat) : (rng n).Pairwise (· < ·) := by
  unfold rng
  rw [List.pairwise_map]
  exact List.Pairwise.imp (fun h => by omega) List.pairwise_lt_range
theorem rng_at {n k : Nat} (h : k < n) : (rng n)[k]? = some (k : Int) := by unfold rng; rw [List.getElem?_map, List.getElem?_range h]; rfl
/-- rising, n of them, from m on: all -/
theorem rise_all : ∀ (l : List Int) (m : Int), l.Pairwise (· < ·) → (∀ p ∈ l, m ≤ p ∧ p < m + l.length) → l = (List.range l.length).map fun (i : Nat) => m + (i : Int)
  | [], _, _, _ => rfl
  | x :: r, m, st, h => by
    rw [List.pairwise_cons] at st
    have hx := h x List.mem_cons_self
    have nd : (r.map fun p => p - (x + 1)).Nodup := by
      rw [List.Nodup, List.pairwise_map]
      exact List.Pairwise.imp (fun h => by omega) st.2
    have hl := nodup_len (m + (r.length + 1 : Nat) - (x + 1)).toNat (r.map fun p => p - (x + 1)) nd (fun p hp => by
      obtain ⟨q, hq, rfl⟩ := List.mem_map.mp hp
      have h1 := st.1 q hq
      have h2 := (h q (List.mem_cons_of_mem _ hq)).2
      rw [List.length_cons] at h2
      omega)
    rw [List.length_map] at hl
    rw [List.length_cons] at hx
    have ex : x = m := by omega
    subst ex
    have ih := rise_all r (x + 1) st.2 (fun p hp => by
      have h1 := st.1 p hp
      have h2 := (h p (List.mem_cons_of_mem _ hp)).2
      rw [List.length_cons] at h2
      omega)
    rw [List.length_cons, List.range_succ_eq_map, List.map_cons, List.map_map]
    congr 1
    · show x = x + ((0 : Nat) : Int); omega
    · refine ih.trans (List.map_congr_left fun i _ => ?_)
      show x + 1 + (i : Int) = x + ((i + 1 : Nat) : Int)
      omega
theorem rise_rng {l : List Int} {n : Nat} (st : l.Pairwise (· < ·)) (h : ∀ p ∈ l, 0 ≤ p ∧ p < (n : Int)) (hl : l.length = n) : l = rng n := by
  have e := rise_all l 0 st (fun p hp => by have := h p hp; omega)
  rw [e, hl]
  unfold rng
  exact List.map_congr_left fun i _ => by omega
theorem lt_of_le_nd {l : List Int} (h : l.Pairwise (· ≤ ·)) (nd : l.Nodup) : l.Pairwise (· < ·) := by
  refine List.Pairwise.imp (fun {a b} (h : a ≤ b ∧ a ≠ b) => ?_) (h.and nd)
  omega
theorem sorted_rng {l js : List Int} {n : Nat} (p : js.Perm l) (s : js.Pairwise (· ≤ ·)) (nd : l.Nodup) (h : ∀ p ∈ l, 0 ≤ p ∧ p < (n : Int)) (hl : l.length = n) : js = rng n :=
  rise_rng (lt_of_le_nd s (p.nodup_iff.mpr nd)) (fun q hq => h q (p.mem_iff.mp hq)) (by rw [p.length_eq, hl])
/-! ### a row through all -/
def Chn (gs : List Pr) (row : List Int) : Prop := ∀ k x y, row[k]? = some x → row[k + 1]? = some y → (x, y) ∈ gs
theorem ins_at {row : List Int} {a : Nat} (ha : a ≤ row.length) (p : Int) (k : Nat) : (row.take a ++ p :: row.drop a)[k]? = if k < a then row[k]? else if k = a then some p else row[k - 1]? := by
  have hl : (row.take a).length = a := by rw [List.length_take]; omega
  by_cases c : k < a
  · rw [if_pos c, List.getElem?_append_left (by omega), List.getElem?_take_of_lt c]
  · rw [if_neg c, List.getElem?_append_right (by omega), hl]
    by_cases c2 : k = a
    · subst c2; rw [if_pos rfl, Nat.sub_self]; rfl
    · rw [if_neg c2]
      obtain ⟨d, rfl⟩ : ∃ d, k = a + 1 + d := ⟨k - a - 1, by omega⟩
      rw [show a + 1 + d - a = d + 1 by omega, List.getElem?_cons_succ, List.getElem?_drop, show a + 1 + d - 1 = a + d by omega]
theorem chn_ins {n : Nat} {gs : List Pr} {row : List Int} {a : Nat} {p : Int} (R : Rd n gs) (C : Chn gs row) (hin : ∀ x ∈ row, x ∈ rng n) (hp : p ∈ rng n) (hne : p ∉ row) (ha : a ≤ row.length)
    (hb : ∀ k x, k < a → row[k]? = some x → (x, p) ∈ gs) (hf : ∀ x, row[a]? = some x → (x, p) ∉ gs) : Chn gs (row.take a ++ p :: row.drop a) := by
  intro k x y hx hy
  rw [ins_at ha] at hx hy
  by_cases c : k + 1 < a
  · rw [if_pos (by omega)] at hx
    rw [if_pos c] at hy
    exact C k x y hx hy
  · rw [if_neg c] at hy
    by_cases c2 : k + 1 = a
    · rw [if_pos c2] at hy
      rw [if_pos (by omega)] at hx
      injection hy with hy
      subst hy
      exact hb k x (by omega) hx
    · rw [if_neg c2, Nat.add_sub_cancel] at hy
      rw [if_neg (by omega)] at hx
      by_cases c3 : k = a
      · rw [if_pos c3] at hx
        injection hx with hx
        subst hx
        rw [c3] at hy
        have hm := List.mem_of_getElem? hy
        exact (R.not (hin _ hm) hp (fun e => hne (e ▸ hm))).mp (hf _ hy)
      · rw [if_neg c3] at hx
        refine C (k - 1) x y hx ?_
        rw [show k - 1 + 1 = k by omega]
        exact hy
theorem ins_perm (row : List Int) (a : Nat) (p : Int) : (row.take a ++ p :: row.drop a).Perm (row ++ [p]) := by
  refine List.perm_middle.trans ?_
  rw [List.take_append_drop]
  exact (List.perm_append_singleton p row).symm
/-! ### wins, and who is beaten -/
def outs (n : Nat) (gs : List Pr) (p : Int) : List Int := (rng n).filter fun j => decide ((p, j) ∈ gs)
theorem mem_outs {n : Nat} {gs : List Pr} {p j : Int} : j ∈ outs n gs p ↔ j ∈ rng n ∧ (p, j) ∈ gs := by unfold outs; rw [List.mem_filter]; simp
theorem outs_nd {n : Nat} {gs : List Pr} {p : Int} : (outs n gs p).Nodup := (rng_nodup n).filter _
theorem cw_outs {n : Nat} {gs : List Pr} (R : Rd n gs) (p : Int) : cw gs p = (outs n gs p).length := by
  unfold cw
  rw [List.countP_eq_length_filter, ← List.length_map (f := fun b : Pr => b.2)]
  refine List.Perm.length_eq ((List.perm_ext_iff_of_nodup ?_ outs_nd).mpr fun j => ?_)
  · rw [List.Nodup, List.pairwise_map]
    refine List.Pairwise.imp_of_mem ?_ (R.nd.filter _)
    rintro ⟨a1, a2⟩ ⟨b1, b2⟩ ha hb ne e
    rw [List.mem_filter] at ha hb
    have ha := of_decide_eq_true ha.2
    have hb := of_decide_eq_true hb.2
    simp only at ha hb e
    subst ha hb e
    exact ne rfl
  · rw [mem_outs, List.mem_map]
    constructor
    · rintro ⟨⟨a, b⟩, hb, rfl⟩
      rw [List.mem_filter] at hb
      have e := of_decide_eq_true hb.2
      simp only at e
      subst e
      exact ⟨R.r hb.1, hb.1⟩
    · rintro ⟨_, h⟩
      exact ⟨(p, j), List.mem_filter.mpr ⟨h, decide_eq_true rfl⟩, rfl⟩
theorem nth_outs {n : Nat} {gs : List Pr} (R : Rd n gs) {p : Int} (hp : p ∈ rng n) : nth (winsF n gs) p = ((outs n gs p).length : Int) := by
  rw [mem_rng] at hp
  rw [nth_wins hp.1 hp.2 (fun b hb => ⟨(R.bg.mem hb).1, (R.bg.mem hb).2.1⟩), cw_outs R]
/-! ### kings -/
def King (n : Nat) (gs : List Pr) (p : Int) : Prop := ∀ o ∈ rng n, o ≠ p → (p, o) ∈ gs ∨ ∃ k ∈ rng n, (p, k) ∈ gs ∧ (k, o) ∈ gs
instance (n : Nat) (gs : List Pr) (p : Int) : Decidable (King n gs p) := by unfold King; infer_instance
theorem has_max (f : Int → Nat) : ∀ {S : List Int}, S ≠ [] → ∃ m ∈ S, ∀ q ∈ S, f q ≤ f m
  | [], h => absurd rfl h
  | [x], _ => ⟨x, List.mem_cons_self, fun q hq => by rw [List.mem_singleton.mp hq]; exact Nat.le_refl _⟩
  | x :: y :: r, _ => by
    obtain ⟨m, hm, h⟩ := has_max f (S := y :: r) (by simp)
    by_cases c : f m ≤ f x
    · refine ⟨x, List.mem_cons_self, fun q hq => ?_⟩
      rcases List.mem_cons.mp hq with e | hq
      · rw [e]; exact Nat.le_refl _
      · exact Nat.le_trans (h q hq) c
    · refine ⟨m, List.mem_cons_of_mem _ hm, fun q hq => ?_⟩
      rcases List.mem_cons.mp hq with e | hq
      · rw [e]; omega
      · exact h q hq
/-- whoever has the most wins within S reaches all of S in two steps -/
theorem king_in {n : Nat} {gs : List Pr} (R : Rd n gs) {S : List Int} (nd : S.Nodup) (hS : ∀ x ∈ S, x ∈ rng n) {m : Int} (hm : m ∈ S)
    (mx : ∀ q ∈ S, (S.filter fun j => decide ((q, j) ∈ gs)).length ≤ (S.filter fun j => decide ((m, j) ∈ gs)).length) :
    ∀ o ∈ S, o ≠ m → (m, o) ∈ gs ∨ ∃ k ∈ S, (m, k) ∈ gs ∧ (k, o) ∈ gs := by
  intro o ho ne
  by_cases c : (m, o) ∈ gs
  · exact .inl c
  refine .inr ?_
  refine Classical.byContradiction fun hno => ?_
  have hom := (R.not (hS m hm) (hS o ho) (Ne.symm ne)).mp c
  have h1 : (m :: S.filter fun j => decide ((m, j) ∈ gs)).length ≤ (S.filter fun j => decide ((o, j) ∈ gs)).length := by
    refine sub_len ?_ fun x hx => ?_
    · rw [List.nodup_cons]
      refine ⟨fun h => ?_, nd.filter _⟩
      have := of_decide_eq_true (List.mem_filter.mp h).2
      exact R.ne this rfl
    · rw [List.mem_filter]
      rcases List.mem_cons.mp hx with e | hx
      · rw [e]; exact ⟨hm, decide_eq_true hom⟩
      · have hx := List.mem_filter.mp hx
        have hmx := of_decide_eq_true hx.2
        have nex : x ≠ o := fun e => c (e ▸ hmx)
        have : (x, o) ∉ gs := fun h => hno ⟨x, hx.1, hmx, h⟩
        exact ⟨hx.1, decide_eq_true ((R.not (hS x hx.1) (hS o ho) nex).mp this)⟩
  have h2 := mx o ho
  rw [List.length_cons] at h1
  omega
theorem king_most {n : Nat} {gs : List Pr} (R : Rd n gs) {m : Int} (hm : m ∈ rng n) (mx : ∀ q ∈ rng n, nth (winsF n gs) q ≤ nth (winsF n gs) m) : King n gs m := by
  intro o ho ne
  refine king_in R (rng_nodup n) (fun x h => h) hm (fun q hq => ?_) o ho ne
  have := mx q hq
  rw [nth_outs R hq, nth_outs R hm] at this
  unfold outs at this
  omega
theorem king_over {n : Nat} {gs : List Pr} (R : Rd n gs) {x p : Int} (h : (x, p) ∈ gs) : ∃ m ∈ rng n, (m, p) ∈ gs ∧ King n gs m := by
  have hS : ∀ x ∈ (rng n).filter fun j => decide ((j, p) ∈ gs), x ∈ rng n := fun x hx => (List.mem_filter.mp hx).1
  have hx : x ∈ (rng n).filter fun j => decide ((j, p) ∈ gs) := List.mem_filter.mpr ⟨R.l h, decide_eq_true h⟩
  obtain ⟨m, hm, mx⟩ := has_max (fun q => (((rng n).filter fun j => decide ((j, p) ∈ gs)).filter fun j => decide ((q, j) ∈ gs)).length) (List.ne_nil_of_mem hx)
  have hmp := of_decide_eq_true (List.mem_filter.mp hm).2
  refine ⟨m, hS m hm, hmp, fun o ho ne => ?_⟩
  by_cases c : (o, p) ∈ gs
  · rcases king_in R ((rng_nodup n).filter _) hS hm mx o (List.mem_filter.mpr ⟨ho, decide_eq_true c⟩) ne with h | ⟨k, hk, h⟩
    · exact .inl h
    · exact .inr ⟨k, hS k hk, h⟩
  · by_cases e : o = p
    · rw [e]; exact .inl hmp
    · exact .inr ⟨p, R.r h, hmp, (R.not ho (R.r h) e).mp c⟩
theorem not_two {n : Nat} {gs : List Pr} (R : Rd n gs) {a b : Int} (ka : King n gs a) (kb : King n gs b) (ha : a ∈ rng n) (hb : b ∈ rng n) (all : ∀ m ∈ rng n, King n gs m → m = a ∨ m = b) (w : (a, b) ∈ gs) : False := by
  by_cases c : ∃ x, (x, a) ∈ gs
  · obtain ⟨x, hx⟩ := c
    obtain ⟨m, hm, hma, km⟩ := king_over R hx
    rcases all m hm km with e | e
    · rw [e] at hma; exact R.ne hma rfl
    · rw [e] at hma; exact R.anti hma w
  · rcases kb a ha (R.ne w) with h | ⟨k, _, _, h⟩
    · exact c ⟨b, h⟩
    · exact c ⟨k, h⟩
theorem kings_two {n : Nat} {gs : List Pr} (R : Rd n gs) : ((rng n).filter fun p => decide (King n gs p)).length ≠ 2 := by
  intro h
  have nd := (rng_nodup n).filter fun p => decide (King n gs p)
  have mem : ∀ p, p ∈ ((rng n).filter fun p => decide (King n gs p)) ↔ p ∈ rng n ∧ King n gs p := fun p => by rw [List.mem_filter]; simp
  generalize (rng n).filter (fun p => decide (King n gs p)) = l at h nd mem
  match l, h, nd, mem with
  | [a, b], _, nd, mem =>
    have ha := (mem a).mp (by simp)
    have hb := (mem b).mp (by simp)
    have ne : a ≠ b := by
      intro e
      exact (List.pairwise_cons.mp nd).1 b (by simp) e
    have all : ∀ m ∈ rng n, King n gs m → m = a ∨ m = b := fun m hm km => by simpa using (mem m).mpr ⟨hm, km⟩
    rcases R.tot ha.1 hb.1 ne with w | w
    · exact not_two R ha.2 hb.2 ha.1 hb.1 all w
    · exact not_two R hb.2 ha.2 hb.1 ha.1 (fun m hm km => (all m hm km).symm) w
end Pa
set_option linter.all false
/-! rings of three, counted: plain mathematics, own work -/
namespace Pa
/-- sums over all twos and threes of a list -/
def prs (f : Int → Int → Int) : List Int → Int
  | [] => 0
  | b :: t => sumOn (f b) t + prs f t
def trs (f : Int → Int → Int → Int) : List Int → Int
  | [] => 0
  | a :: r => prs (f a) r + trs f r
theorem sumOn_cons (f : Int → Int) (a : Int) (r : List Int) : sumOn f (a :: r) = f a + sumOn f r := rfl
theorem sumOn_mul (f : Int → Int) (c : Int) : ∀ l, sumOn (fun p => c * f p) l = c * sumOn f l
  | [] => (Int.mul_zero c).symm
  | a :: r => by rw [sumOn_cons, sumOn_cons, sumOn_mul f c r, Int.mul_add]
theorem prs_congr {f g : Int → Int → Int} : ∀ {l : List Int}, l.Pairwise (· < ·) → (∀ a ∈ l, ∀ b ∈ l, a < b → f a b = g a b) → prs f l = prs g l
  | [], _, _ => rfl
  | a :: r, st, h => by
    rw [List.pairwise_cons] at st
    show sumOn (f a) r + prs f r = sumOn (g a) r + prs g r
    rw [sumOn_congr (fun p hp => h a List.mem_cons_self p (List.mem_cons_of_mem _ hp) (st.1 p hp)), prs_congr st.2 fun x hx y hy => h x (List.mem_cons_of_mem _ hx) y (List.mem_cons_of_mem _ hy)]
theorem trs_congr {f g : Int → Int → Int → Int} : ∀ {l : List Int}, l.Pairwise (· < ·) → (∀ a ∈ l, ∀ b ∈ l, ∀ c ∈ l, a < b → b < c → f a b c = g a b c) → trs f l = trs g l
  | [], _, _ => rfl
  | a :: r, st, h => by
    rw [List.pairwise_cons] at st
    show prs (f a) r + trs f r = prs (g a) r + trs g r
    rw [prs_congr st.2 (fun x hx y hy hxy => h a List.mem_cons_self x (List.mem_cons_of_mem _ hx) y (List.mem_cons_of_mem _ hy) (st.1 x hx) hxy),
      trs_congr st.2 fun x hx y hy z hz => h x (List.mem_cons_of_mem _ hx) y (List.mem_cons_of_mem _ hy) z (List.mem_cons_of_mem _ hz)]
theorem prs_add (f g : Int → Int → Int) : ∀ l, prs (fun a b => f a b + g a b) l = prs f l + prs g l
  | [] => rfl
  | a :: r => by
    show sumOn (fun b => f a b + g a b) r + prs _ r = (sumOn (f a) r + prs f r) + (sumOn (g a) r + prs g r)
    rw [sumOn_add, prs_add f g r]
    omega
theorem trs_add (f g : Int → Int → Int → Int) : ∀ l, trs (fun a b c => f a b c + g a b c) l = trs f l + trs g l
  | [] => rfl
  | a :: r => by
    show prs (fun b c => f a b c + g a b c) r + trs _ r = (prs (f a) r + trs f r) + (prs (g a) r + trs g r)
    rw [prs_add, trs_add f g r]
    omega
section
variable (gs : List Pr)
def wn (i j : Int) : Int := if (i, j) ∈ gs then 1 else 0
def out (l : List Int) (v : Int) : Int := sumOn (wn gs v) l
/-- one of the three won over both others -/
def src (a b c : Int) : Int := wn gs a b * wn gs a c + wn gs b a * wn gs b c + wn gs c a * wn gs c b
def cyc (a b c : Int) : Int := if ((a, b) ∈ gs ∧ (b, c) ∈ gs ∧ (c, a) ∈ gs) ∨ ((b, a) ∈ gs ∧ (c, b) ∈ gs ∧ (a, c) ∈ gs) then 1 else 0
end
variable {gs : List Pr}
theorem wn_01 (i j : Int) : wn gs i j = 0 ∨ wn gs i j = 1 := by unfold wn; split <;> simp
theorem step2 {x X : Int} (h : x = 0 ∨ x = 1) : (x + X) * (x + X - 1) = X * (X - 1) + 2 * (x * X) := by
  rcases h with h | h <;> subst h
  · rw [Int.zero_add, Int.zero_mul, Int.mul_zero, Int.add_zero]
  · rw [Int.one_mul, show (1 + X - 1 : Int) = X by omega, Int.add_mul, Int.one_mul, Int.mul_sub, Int.mul_one]
    omega
theorem out_cons (b : Int) (t : List Int) (v : Int) : out gs (b :: t) v = wn gs v b + out gs t v := rfl
theorem prs_src (hn : ∀ v, wn gs v v = 0) (a : Int) : ∀ r : List Int, 2 * prs (src gs a) r = out gs r a * (out gs r a - 1) + 2 * sumOn (fun v => wn gs v a * out gs r v) r
  | [] => rfl
  | b :: t => by
    have ih := prs_src hn a t
    have e1 : sumOn (src gs a b) t = wn gs a b * out gs t a + wn gs b a * out gs t b + sumOn (fun c => wn gs c a * wn gs c b) t := by
      unfold src out
      rw [sumOn_add, sumOn_add, sumOn_mul, sumOn_mul]
    have e2 : sumOn (fun v => wn gs v a * out gs (b :: t) v) (b :: t) = wn gs b a * out gs t b + sumOn (fun c => wn gs c a * wn gs c b) t + sumOn (fun v => wn gs v a * out gs t v) t := by
      rw [sumOn_cons]
      have : sumOn (fun v => wn gs v a * out gs (b :: t) v) t = sumOn (fun c => wn gs c a * wn gs c b) t + sumOn (fun v => wn gs v a * out gs t v) t := by
        rw [← sumOn_add]
        exact sumOn_congr fun v _ => by rw [out_cons, Int.mul_add]
      rw [this, out_cons, hn b, Int.zero_add]
      omega
    show 2 * (sumOn (src gs a b) t + prs (src gs a) t) = _
    rw [e2, e1, out_cons, step2 (wn_01 a b)]
    omega
theorem trs_src (hn : ∀ v, wn gs v v = 0) : ∀ l : List Int, 2 * trs (src gs) l = sumOn (fun v => out gs l v * (out gs l v - 1)) l
  | [] => rfl
  | a :: r => by
    have ih := trs_src hn r
    have e := prs_src hn a r
    have e2 : sumOn (fun v => out gs (a :: r) v * (out gs (a :: r) v - 1)) r = sumOn (fun v => out gs r v * (out gs r v - 1)) r + 2 * sumOn (fun v => wn gs v a * out gs r v) r := by
      rw [← sumOn_mul, ← sumOn_add]
      exact sumOn_congr fun v _ => by rw [out_cons, step2 (wn_01 v a)]
    show 2 * (prs (src gs a) r + trs (src gs) r) = out gs (a :: r) a * (out gs (a :: r) a - 1) + sumOn _ r
    rw [e2, out_cons, hn a, Int.zero_add]
    omega
section
variable {n : Nat}
theorem wn_pos {i j : Int} (h : (i, j) ∈ gs) : wn gs i j = 1 := if_pos h
theorem wn_neg {i j : Int} (h : (i, j) ∉ gs) : wn gs i j = 0 := if_neg h
theorem Rd.wn0 (R : Rd n gs) (v : Int) : wn gs v v = 0 := if_neg fun h => R.ne h rfl
theorem Rd.no (R : Rd n gs) {i j : Int} (h : (i, j) ∈ gs) : (j, i) ∉ gs := fun z => R.anti h z
theorem cyc_src (R : Rd n gs) {a b c : Int} (ha : a ∈ rng n) (hb : b ∈ rng n) (hc : c ∈ rng n) (ab : a < b) (bc : b < c) : cyc gs a b c + src gs a b c = 1 := by
  unfold cyc src
  rcases R.tot ha hb (by omega) with h1 | h1 <;> rcases R.tot hb hc (by omega) with h2 | h2 <;> rcases R.tot ha hc (by omega) with h3 | h3 <;>
    have h1' := R.no h1 <;> have h2' := R.no h2 <;> have h3' := R.no h3 <;>
    simp [h1, h2, h3, wn_pos h1, wn_pos h2, wn_pos h3, wn_neg h1', wn_neg h2', wn_neg h3', h1', h2', h3']
theorem trs_one : ∀ n, n ≤ 10 → trs (fun _ _ _ => 1) (rng n) = (n : Int) * ((n : Int) - 1) * ((n : Int) - 2) / 6 := by
  intro n hn
  have h : ∀ k : Fin 11, trs (fun _ _ _ => 1) (rng k.1) = (k.1 : Int) * ((k.1 : Int) - 1) * ((k.1 : Int) - 2) / 6 := by decide +kernel
  exact h ⟨n, by omega⟩
theorem out_len (l : List Int) (v : Int) : out gs l v = ((l.filter fun j => decide ((v, j) ∈ gs)).length : Int) := by
  induction l with
  | nil => rfl
  | cons b t ih =>
    rw [out_cons, ih, List.filter_cons]
    unfold wn
    by_cases c : (v, b) ∈ gs
    · rw [if_pos c, if_pos (decide_eq_true c), List.length_cons]; omega
    · rw [if_neg c, if_neg (by simpa using c)]; omega
theorem half_even {k : Int} (h0 : 0 ≤ k) (h : k ≤ 10) : 2 * (k * (k - 1) / 2) = k * (k - 1) := by
  have z : ∀ i : Fin 11, 2 * (((i.1 : Nat) : Int) * (((i.1 : Nat) : Int) - 1) / 2) = ((i.1 : Nat) : Int) * (((i.1 : Nat) : Int) - 1) := by decide +kernel
  have := z ⟨k.toNat, by omega⟩
  simpa [Int.toNat_of_nonneg h0] using this
theorem sum_map (f : Int → Int) : ∀ l : List Int, (l.map f).sum = sumOn f l
  | [] => rfl
  | a :: r => by rw [List.map_cons, List.sum_cons, sum_map f r]; rfl
theorem winsF_rng : winsF n gs = (rng n).map (nth (winsF n gs)) := by
  refine List.ext_getElem (by rw [List.length_map, rng_len, winsF_len]) fun i h1 h2 => ?_
  rw [winsF_len] at h1
  have e : (rng n)[i]'(by rw [rng_len]; exact h1) = (i : Int) := by
    have := rng_at h1
    rw [List.getElem?_eq_getElem (by rw [rng_len]; exact h1)] at this
    injection this
  rw [List.getElem_map, e]
  unfold nth
  rw [Int.toNat_natCast, List.getD, List.getElem?_eq_getElem (by rw [winsF_len]; exact h1)]
  rfl
/-- how many rings there are, by the wins -/
theorem rings_by (R : Rd n gs) (h10 : n ≤ 10) : trs (cyc gs) (rng n) = (n : Int) * ((n : Int) - 1) * ((n : Int) - 2) / 6 - ((winsF n gs).map fun k => k * (k - 1) / 2).sum := by
  have e1 : trs (fun a b c => cyc gs a b c + src gs a b c) (rng n) = trs (fun _ _ _ => 1) (rng n) :=
    trs_congr (rng_lt n) fun a ha b hb c hc ab bc => cyc_src R ha hb hc ab bc
  rw [trs_add, trs_one n h10] at e1
  have e2 := trs_src (gs := gs) R.wn0 (rng n)
  have e3 : 2 * ((winsF n gs).map fun k => k * (k - 1) / 2).sum = sumOn (fun v => out gs (rng n) v * (out gs (rng n) v - 1)) (rng n) := by
    rw [winsF_rng, List.map_map, sum_map, ← sumOn_mul]
    refine sumOn_congr fun v hv => ?_
    have ev : nth (winsF n gs) v = out gs (rng n) v := by rw [nth_outs R hv, out_len]; rfl
    show 2 * (nth (winsF n gs) v * (nth (winsF n gs) v - 1) / 2) = _
    have hl : ((rng n).filter fun j => decide ((v, j) ∈ gs)).length ≤ n := Nat.le_trans (List.length_filter_le _ _) (Nat.le_of_eq (rng_len n))
    rw [ev]
    refine half_even ?_ ?_ <;> rw [out_len] <;> omega
  omega
/-! ### no ring: the wins are unlike -/
theorem cyc_nn (a b c : Int) : 0 ≤ cyc gs a b c := by unfold cyc; split <;> decide
theorem sumOn_nn {f : Int → Int} : ∀ {l : List Int}, (∀ p, 0 ≤ f p) → 0 ≤ sumOn f l
  | [], _ => Int.le_refl _
  | a :: r, h => by have := h a; have := sumOn_nn (l := r) h; rw [sumOn_cons]; omega
theorem prs_nn {f : Int → Int → Int} (h : ∀ a b, 0 ≤ f a b) : ∀ l : List Int, 0 ≤ prs f l
  | [] => Int.le_refl _
  | a :: r => by have := sumOn_nn (l := r) (h a); have := prs_nn h r; show 0 ≤ sumOn (f a) r + prs f r; omega
theorem trs_nn {f : Int → Int → Int → Int} (h : ∀ a b c, 0 ≤ f a b c) : ∀ l : List Int, 0 ≤ trs f l
  | [] => Int.le_refl _
  | a :: r => by have := prs_nn (h a) r; have := trs_nn h r; show 0 ≤ prs (f a) r + trs f r; omega
theorem sumOn_z {f : Int → Int} (h : ∀ p, 0 ≤ f p) : ∀ {l : List Int}, sumOn f l = 0 → ∀ p ∈ l, f p = 0
  | [], _, _, hp => by cases hp
  | a :: r, e, p, hp => by
    rw [sumOn_cons] at e
    have h1 := h a
    have h2 := sumOn_nn (l := r) h
    rcases List.mem_cons.mp hp with q | q
    · rw [q]; omega
    · exact sumOn_z h (by omega) p q
theorem prs_z {f : Int → Int → Int} (h : ∀ a b, 0 ≤ f a b) : ∀ {l : List Int}, l.Pairwise (· < ·) → prs f l = 0 → ∀ a ∈ l, ∀ b ∈ l, a < b → f a b = 0
  | [], _, _, a, ha => by cases ha
  | x :: r, st, e, a, ha => by
    rw [List.pairwise_cons] at st
    have e : sumOn (f x) r + prs f r = 0 := e
    have h1 := sumOn_nn (l := r) (h x)
    have h2 := prs_nn h r
    intro b hb ab
    rcases List.mem_cons.mp hb with q | q
    · rcases List.mem_cons.mp ha with p | p
      · omega
      · have := st.1 a p; omega
    · rcases List.mem_cons.mp ha with p | p
      · rw [p]; exact sumOn_z (h x) (by omega) b q
      · exact prs_z h st.2 (by omega) a p b q ab
theorem trs_z {f : Int → Int → Int → Int} (h : ∀ a b c, 0 ≤ f a b c) : ∀ {l : List Int}, l.Pairwise (· < ·) → trs f l = 0 → ∀ a ∈ l, ∀ b ∈ l, ∀ c ∈ l, a < b → b < c → f a b c = 0
  | [], _, _, a, ha => by cases ha
  | x :: r, st, e, a, ha => by
    rw [List.pairwise_cons] at st
    have e : prs (f x) r + trs f r = 0 := e
    have h1 := prs_nn (h x) r
    have h2 := trs_nn h r
    intro b hb c hc ab bc
    have up : ∀ y ∈ x :: r, x ≤ y := fun y hy => by
      rcases List.mem_cons.mp hy with q | q
      · omega
      · have := st.1 y q; omega
    have xa := up a ha
    have hb' : b ∈ r := (List.mem_cons.mp hb).resolve_left (by omega)
    have hc' : c ∈ r := (List.mem_cons.mp hc).resolve_left (by omega)
    rcases List.mem_cons.mp ha with p | p
    · rw [p]; exact prs_z (h x) st.2 (by omega) b hb' c hc' bc
    · exact trs_z h st.2 (by omega) a p b hb' c hc' ab bc
theorem no_ring (R : Rd n gs) (z : trs (cyc gs) (rng n) = 0) {i j k : Int} (h1 : (i, j) ∈ gs) (h2 : (j, k) ∈ gs) (h3 : (k, i) ∈ gs) : False := by
  have all := trs_z (cyc_nn (gs := gs)) (rng_lt n) z
  have no : ∀ a ∈ rng n, ∀ b ∈ rng n, ∀ c ∈ rng n, a < b → b < c → ¬ (((a, b) ∈ gs ∧ (b, c) ∈ gs ∧ (c, a) ∈ gs) ∨ ((b, a) ∈ gs ∧ (c, b) ∈ gs ∧ (a, c) ∈ gs)) := by
    intro a ha b hb c hc ab bc h
    have := all a ha b hb c hc ab bc
    unfold cyc at this
    rw [if_pos h] at this
    omega
  have hi := R.l h1
  have hj := R.l h2
  have hk := R.l h3
  have n1 := R.ne h1
  have n2 := R.ne h2
  have n3 := R.ne h3
  rcases Int.lt_or_gt_of_ne n1 with a | a <;> rcases Int.lt_or_gt_of_ne n2 with b | b <;> rcases Int.lt_or_gt_of_ne n3 with c | c
  · omega
  · exact no i hi j hj k hk a b (.inl ⟨h1, h2, h3⟩)
  · exact no k hk i hi j hj c a (.inl ⟨h3, h1, h2⟩)
  · exact no i hi k hk j hj (by omega) (by omega) (.inr ⟨h3, h2, h1⟩)
  · exact no j hj k hk i hi b c (.inl ⟨h2, h3, h1⟩)
  · exact no j hj i hi k hk (by omega) (by omega) (.inr ⟨h1, h3, h2⟩)
  · exact no k hk j hj i hi (by omega) (by omega) (.inr ⟨h2, h1, h3⟩)
  · omega
theorem wins_unlike (R : Rd n gs) (z : trs (cyc gs) (rng n) = 0) : (winsF n gs).Nodup := by
  rw [winsF_rng, List.Nodup, List.pairwise_map]
  refine List.Pairwise.imp_of_mem ?_ (rng_nodup n)
  have key : ∀ {i j : Int}, (i, j) ∈ gs → nth (winsF n gs) j < nth (winsF n gs) i := by
    intro i j h
    rw [nth_outs R (R.l h), nth_outs R (R.r h)]
    have : (j :: outs n gs j).length ≤ (outs n gs i).length := by
      refine sub_len ?_ fun x hx => ?_
      · rw [List.nodup_cons]
        exact ⟨fun hm => R.ne (mem_outs.mp hm).2 rfl, outs_nd⟩
      · rw [mem_outs]
        rcases List.mem_cons.mp hx with e | hx
        · rw [e]; exact ⟨R.r h, h⟩
        · have hx := mem_outs.mp hx
          refine ⟨hx.1, ?_⟩
          by_cases e : i = x
          · subst e; exact (R.anti h hx.2).elim
          · refine (R.tot (R.l h) hx.1 e).resolve_right fun hb => no_ring R z h hx.2 hb
    rw [List.length_cons] at this
    omega
  intro a b ha hb ne e
  rcases R.tot ha hb ne with h | h
  · have := key h; omega
  · have := key h; omega
theorem wins_in (R : Rd n gs) (h1 : 1 ≤ n) : ∀ k ∈ winsF n gs, 0 ≤ k ∧ k < (n : Int) := by
  intro k hk
  rw [winsF_rng] at hk
  obtain ⟨v, hv, rfl⟩ := List.mem_map.mp hk
  rw [nth_outs R hv]
  have : (v :: outs n gs v).length ≤ (rng n).length := by
    refine sub_len ?_ fun x hx => ?_
    · rw [List.nodup_cons]
      exact ⟨fun hm => R.ne (mem_outs.mp hm).2 rfl, outs_nd⟩
    · rcases List.mem_cons.mp hx with e | hx
      · rw [e]; exact hv
      · exact (mem_outs.mp hx).1
  rw [List.length_cons, rng_len] at this
  omega
end
/-! ### sums by loops -/
theorem rng_drop {n i : Nat} (h : i < n) : (rng n).drop i = (i : Int) :: (rng n).drop (i + 1) := by
  have hl : i < (rng n).length := by rw [rng_len]; exact h
  rw [List.drop_eq_getElem_cons hl]
  congr 1
  have := rng_at h
  rw [List.getElem?_eq_getElem hl] at this
  injection this
theorem rng_drop_all (n : Nat) : (rng n).drop n = [] := List.drop_of_length_le (by rw [rng_len]; exact Nat.le_refl _)
end Pa
set_option Elab.async false
set_option linter.all false
namespace Pa
/-- (cost, head, rest): the less of two -/
def lessC (y x : Int × Int × List Int) : Bool := decide (y.1 < x.1) || (decide (y.1 = x.1) && decide (y.2.1 < x.2.1))
def leC (x y : Int × Int × List Int) : Prop := x.1 < y.1 ∨ (x.1 = y.1 ∧ x.2.1 ≤ y.2.1)
theorem leC_of {x y : Int × Int × List Int} (h : lessC y x = false) : leC x y := by
  unfold lessC at h
  unfold leC
  rw [Bool.or_eq_false_iff, decide_eq_false_iff_not] at h
  by_cases c : y.1 = x.1
  · rw [decide_eq_true c, Bool.true_and, decide_eq_false_iff_not] at h
    right; omega
  · left; omega
theorem leC_lt {x y : Int × Int × List Int} (h : lessC y x = true) : leC y x := by
  unfold lessC at h
  unfold leC
  rw [Bool.or_eq_true, Bool.and_eq_true, decide_eq_true_eq, decide_eq_true_eq, decide_eq_true_eq] at h
  omega
theorem leC_trans {x y z : Int × Int × List Int} (h1 : leC x y) (h2 : leC y z) : leC x z := by
  unfold leC at *
  omega
def minC (a : Int × Int × List Int) (l : List (Int × Int × List Int)) : Int × Int × List Int := l.foldl (fun x y => if lessC y x = true then y else x) a
theorem minC_ok : ∀ (l : List (Int × Int × List Int)) (a : Int × Int × List Int), minC a l ∈ a :: l ∧ ∀ y ∈ a :: l, leC (minC a l) y
  | [], a => ⟨List.mem_cons_self, fun y hy => by rw [List.mem_singleton.mp hy]; exact .inr ⟨rfl, Int.le_refl _⟩⟩
  | b :: r, a => by
    show minC (if lessC b a = true then b else a) r ∈ _ ∧ ∀ y ∈ _, leC (minC (if lessC b a = true then b else a) r) y
    by_cases c : lessC b a = true
    · rw [if_pos c]
      obtain ⟨h1, h2⟩ := minC_ok r b
      refine ⟨List.mem_cons_of_mem _ h1, fun y hy => ?_⟩
      rcases List.mem_cons.mp hy with rfl | hy
      · exact leC_trans (h2 b List.mem_cons_self) (leC_lt c)
      · exact h2 y hy
    · rw [if_neg c]
      obtain ⟨h1, h2⟩ := minC_ok r a
      refine ⟨?_, fun y hy => ?_⟩
      · rcases List.mem_cons.mp h1 with z | z
        · rw [z]; exact List.mem_cons_self
        · exact List.mem_cons_of_mem _ (List.mem_cons_of_mem _ z)
      · rcases List.mem_cons.mp hy with rfl | hy
        · exact h2 y List.mem_cons_self
        · rcases List.mem_cons.mp hy with rfl | hy
          · exact leC_trans (h2 a List.mem_cons_self) (leC_of (Bool.eq_false_iff.mpr c))
          · exact h2 y (List.mem_cons_of_mem _ hy)
section
variable (gs : List Pr)
def behind (S : List Int) (f : Int) : List Int := S.filter fun p => !decide (p = f)
/-- how many of these won over f -/
def lost (S : List Int) (f : Int) : Int := ((S.filter fun p => decide ((p, f) ∈ gs)).length : Nat)
def optL : Nat → List Int → Int × List Int
  | 0, _ => (0, [])
  | _ + 1, [] => (0, [])
  | m + 1, f :: r => (fun c : Int × Int × List Int => (c.1, c.2.1 :: c.2.2)) (minC (lost gs (behind (f :: r) f) f + (optL m (behind (f :: r) f)).1, f, (optL m (behind (f :: r) f)).2)
      (r.map fun g => (lost gs (behind (f :: r) g) g + (optL m (behind (f :: r) g)).1, g, (optL m (behind (f :: r) g)).2)))
/-- the fewest upsets among S, with the first order that has them -/
def opt (S : List Int) : Int × List Int := optL gs S.length S
def candC (S : List Int) (f : Int) : Int × Int × List Int := (lost gs (behind S f) f + (opt gs (behind S f)).1, f, (opt gs (behind S f)).2)
end
variable {gs : List Pr}
theorem behind_len {S : List Int} {f : Int} (nd : S.Nodup) (h : f ∈ S) : (behind S f).length = S.length - 1 := by
  have : behind S f = S.erase f := by
    unfold behind
    rw [List.Nodup.erase_eq_filter nd]
    refine List.filter_congr fun p _ => ?_
    by_cases c : p = f
    · subst c; simp
    · simp [c]
  rw [this, List.length_erase_of_mem h]
theorem opt_nil : opt gs [] = (0, []) := rfl
/-- the best one: some candidate that is before all -/
theorem opt_ok {S : List Int} (nd : S.Nodup) (hne : S ≠ []) : ∃ f ∈ S, opt gs S = ((candC gs S f).1, f :: (candC gs S f).2.2) ∧ ∀ g ∈ S, leC (candC gs S f) (candC gs S g) := by
  cases S with
  | nil => exact absurd rfl hne
  | cons f r =>
    have ec : ∀ g ∈ f :: r, (lost gs (behind (f :: r) g) g + (optL gs r.length (behind (f :: r) g)).1, g, (optL gs r.length (behind (f :: r) g)).2) = candC gs (f :: r) g := by
      intro g hg
      unfold candC opt
      rw [behind_len nd hg]
      rfl
    have e : opt gs (f :: r) = (fun c : Int × Int × List Int => (c.1, c.2.1 :: c.2.2)) (minC (candC gs (f :: r) f) (r.map (candC gs (f :: r)))) := by
      show optL gs (r.length + 1) (f :: r) = _
      unfold optL
      rw [ec f List.mem_cons_self, List.map_congr_left fun g hg => ec g (List.mem_cons_of_mem _ hg)]
    obtain ⟨h1, h2⟩ := minC_ok (r.map (candC gs (f :: r))) (candC gs (f :: r) f)
    have h1' : minC (candC gs (f :: r) f) (r.map (candC gs (f :: r))) ∈ (f :: r).map (candC gs (f :: r)) := h1
    obtain ⟨g, hg, eg⟩ := List.mem_map.mp h1'
    refine ⟨g, hg, ?_, fun y hy => ?_⟩
    · rw [e, ← eg]
      rfl
    · rw [eg]
      exact h2 _ (by rw [← List.map_cons]; exact List.mem_map_of_mem hy)
/-- a candidate before all others is the best one -/
theorem opt_is {S : List Int} {f : Int} (nd : S.Nodup) (hf : f ∈ S) (h : ∀ g ∈ S, leC (candC gs S f) (candC gs S g)) : opt gs S = ((candC gs S f).1, f :: (candC gs S f).2.2) := by
  obtain ⟨g, hg, e, h2⟩ := opt_ok (gs := gs) nd (List.ne_nil_of_mem hf)
  have a := h g hg
  have b := h2 f hf
  have efg : f = g := by
    unfold leC candC at a b
    simp only at a b
    omega
  rw [e, efg]
theorem behind_nodup {S : List Int} {f : Int} (nd : S.Nodup) : (behind S f).Nodup := nd.sublist List.filter_sublist
theorem opt_len : ∀ (m : Nat) (S : List Int), S.length = m → S.Nodup → (opt gs S).2.length = m
  | 0, S, h, _ => by rw [List.eq_nil_of_length_eq_zero h]; rfl
  | m + 1, S, h, nd => by
    obtain ⟨f, hf, e, _⟩ := opt_ok (gs := gs) nd (fun z => by rw [z] at h; cases h)
    rw [e]
    have := opt_len m (behind S f) (by rw [behind_len nd hf]; omega) (behind_nodup nd)
    exact congrArg (· + 1) this
theorem opt_ne {S : List Int} (nd : S.Nodup) (hne : S ≠ []) : (opt gs S).2 ≠ [] := by
  obtain ⟨f, hf, e, _⟩ := opt_ok (gs := gs) nd hne
  rw [e]
  exact List.cons_ne_nil _ _
end Pa
set_option Elab.async false
set_option linter.all false
set_option maxRecDepth 100000
namespace Pa
/-- sets of players told by bits -/
def bit (m : Nat) (p : Int) : Bool := decide (m / 2 ^ p.toNat % 2 = 1)
def ins (n m : Nat) : List Int := (rng n).filter (bit m)
theorem bits1 : ∀ m : Fin 256, ∀ f : Fin 8, m.val / 2 ^ f.val % 2 = 1 → 2 ^ f.val ≤ m.val ∧ ∀ p : Fin 8, decide ((m.val - 2 ^ f.val) / 2 ^ p.val % 2 = 1) = (!decide (p.val = f.val) && decide (m.val / 2 ^ p.val % 2 = 1)) := by decide +kernel
theorem bits2 : ∀ n : Fin 9, ∀ m : Fin 256, m.val < 2 ^ n.val → m.val ≠ 0 → ¬ ∀ p : Fin 8, p.val < n.val → ¬ m.val / 2 ^ p.val % 2 = 1 := by decide +kernel
theorem bits3 : ∀ n : Fin 9, ∀ p : Fin 8, p.val < n.val → (2 ^ n.val - 1) / 2 ^ p.val % 2 = 1 := by decide +kernel
theorem pow8 {n : Nat} (hn : n ≤ 8) : 2 ^ n ≤ 256 := by
  show 2 ^ n ≤ 2 ^ 8
  exact Nat.pow_le_pow_right (by decide) hn
theorem ins_sub (n m : Nat) : (ins n m).Sublist (rng n) := List.filter_sublist
theorem ins_lt (n m : Nat) : (ins n m).Pairwise (· < ·) := (rng_lt n).sublist (ins_sub n m)
theorem ins_nodup (n m : Nat) : (ins n m).Nodup := (rng_nodup n).sublist (ins_sub n m)
theorem ins_len (n m : Nat) : (ins n m).length ≤ n := by have := (ins_sub n m).length_le; rw [rng_len] at this; exact this
theorem ins_behind {n m : Nat} {f : Int} (hn : n ≤ 8) (hm : m < 2 ^ n) (hf : f ∈ ins n m) : ∃ k : Nat, f = (k : Int) ∧ k < n ∧ 2 ^ k ≤ m ∧ ins n (m - 2 ^ k) = behind (ins n m) f := by
  have h256 := pow8 hn
  obtain ⟨h1, h2⟩ := List.mem_filter.mp hf
  obtain ⟨h3, h4⟩ := mem_rng.mp h1
  obtain ⟨k, rfl⟩ := Int.eq_ofNat_of_zero_le h3
  have hk : k < n := by omega
  have hb := of_decide_eq_true h2
  rw [Int.toNat_natCast] at hb
  obtain ⟨b1, b2⟩ := bits1 ⟨m, by omega⟩ ⟨k, by omega⟩ hb
  refine ⟨k, rfl, hk, b1, ?_⟩
  unfold behind ins
  rw [List.filter_filter]
  refine List.filter_congr fun p hp => ?_
  obtain ⟨h5, h6⟩ := mem_rng.mp hp
  obtain ⟨j, rfl⟩ := Int.eq_ofNat_of_zero_le h5
  have z := b2 ⟨j, by omega⟩
  unfold bit
  rw [Int.toNat_natCast]
  rw [show decide ((j : Int) = (k : Int)) = decide (j = k) from decide_eq_decide.mpr ⟨fun z => by omega, fun z => by rw [z]⟩]
  exact z
theorem ins_ne {n m : Nat} (hn : n ≤ 8) (hm : m < 2 ^ n) (h0 : m ≠ 0) : ins n m ≠ [] := by
  have h256 := pow8 hn
  intro z
  refine bits2 ⟨n, by omega⟩ ⟨m, by omega⟩ hm h0 fun p hp hb => ?_
  have : (p.val : Int) ∈ ins n m := List.mem_filter.mpr ⟨mem_rng.mpr ⟨by omega, by exact Int.ofNat_lt.mpr hp⟩, decide_eq_true (by rw [Int.toNat_natCast]; exact hb)⟩
  rw [z] at this
  cases this
theorem ins_all {n : Nat} (hn : n ≤ 8) : ins n (2 ^ n - 1) = rng n := by
  refine List.filter_eq_self.mpr fun p hp => ?_
  obtain ⟨h5, h6⟩ := mem_rng.mp hp
  obtain ⟨j, rfl⟩ := Int.eq_ofNat_of_zero_le h5
  exact decide_eq_true (by rw [Int.toNat_natCast]; exact bits3 ⟨n, by omega⟩ ⟨j, by omega⟩ (by show j < n; omega))
theorem ins_zero (n : Nat) : ins n 0 = [] := by
  refine List.filter_eq_nil_iff.mpr fun p _ => ?_
  unfold bit
  rw [Nat.zero_div]
  decide
section
variable {gs : List Pr}
theorem lost_self {S : List Int} {f : Int} (h : (f, f) ∉ gs) : lost gs (behind S f) f = lost gs S f := by
  unfold lost behind
  rw [List.filter_filter]
  congr 2
  refine List.filter_congr fun p _ => ?_
  by_cases c : p = f
  · subst c
    rw [decide_eq_false h]
    rfl
  · rw [decide_eq_false c]
    exact Bool.and_true _
theorem opt_min {S : List Int} {m : Int} (nd : S.Nodup) (hne : S ≠ []) (hm : m ∈ S.map fun f => (candC gs S f).1) (hle : ∀ x ∈ S.map (fun f => (candC gs S f).1), m ≤ x) : m = (opt gs S).1 := by
  obtain ⟨f, hf, e, h2⟩ := opt_ok (gs := gs) nd hne
  rw [e]
  have a := hle _ (List.mem_map_of_mem hf)
  obtain ⟨g, hg, rfl⟩ := List.mem_map.mp hm
  have b := h2 g hg
  unfold leC at b
  show (candC gs S g).1 = (candC gs S f).1
  omega
theorem opt_some {S : List Int} (nd : S.Nodup) (hne : S ≠ []) : ∃ f ∈ S, (candC gs S f).1 = (opt gs S).1 := by
  obtain ⟨f, hf, e, _⟩ := opt_ok (gs := gs) nd hne
  exact ⟨f, hf, by rw [e]⟩
theorem mem_take_lt {S : List Int} {i : Nat} {f g : Int} (st : S.Pairwise (· < ·)) (hf : S[i]? = some f) (hg : g ∈ S) (h : g < f) : g ∈ S.take i := by
  obtain ⟨hi, rfl⟩ := List.getElem?_eq_some_iff.mp hf
  obtain ⟨j, hj, rfl⟩ := List.mem_iff_getElem.mp hg
  have key := List.pairwise_iff_getElem.mp st
  have hji : j < i := by
    rcases Nat.lt_trichotomy j i with c | c | c
    · exact c
    · subst c; exact absurd h (Int.lt_irrefl _)
    · have := key i j hi hj c
      omega
  exact List.mem_take_iff_getElem.mpr ⟨j, by omega, rfl⟩
theorem opt_first {S : List Int} {i : Nat} {f : Int} (st : S.Pairwise (· < ·)) (hf : S[i]? = some f) (hc : (candC gs S f).1 = (opt gs S).1) (hno : ∀ g ∈ S.take i, (candC gs S g).1 ≠ (opt gs S).1) : opt gs S = ((candC gs S f).1, f :: (candC gs S f).2.2) := by
  have nd : S.Nodup := st.imp fun h => Int.ne_of_lt h
  have hin := List.mem_of_getElem? hf
  obtain ⟨g, hg, e, h2⟩ := opt_ok (gs := gs) nd (List.ne_nil_of_mem hin)
  have a := h2 f hin
  have eg : (candC gs S g).1 = (opt gs S).1 := by rw [e]
  have efg : f = g := by
    unfold leC at a
    have hle : g ≤ f := by
      rcases a with a | a
      · omega
      · exact a.2
    rcases Int.lt_or_eq_of_le hle with c | c
    · exact absurd eg (hno g (mem_take_lt st hf hg c))
    · exact c.symm
  rw [e, efg]
/-- the table: the fewest upsets of each set -/
def tblF (gs : List Pr) (n m : Nat) : List Int := (List.range m).map fun k => (opt gs (ins n k)).1
theorem tblF_at {n m k : Nat} (h : k < m) : (tblF gs n m)[k]? = some (opt gs (ins n k)).1 := by unfold tblF; rw [List.getElem?_map, List.getElem?_range h]; rfl
theorem tblF_succ (n m : Nat) : tblF gs n (m + 1) = tblF gs n m ++ [(opt gs (ins n m)).1] := by unfold tblF; rw [List.range_succ, List.map_append]; rfl
theorem tblF_len (n m : Nat) : (tblF gs n m).length = m := by unfold tblF; rw [List.length_map, List.length_range]
theorem tblF_one (n : Nat) : tblF gs n 1 = [0] := by
  show [(opt gs (ins n 0)).1] = [0]
  rw [ins_zero]
  rfl
/-- the cost of f ahead, as the table tells it -/
theorem cost_tbl {n m k : Nat} {f : Int} (hfk : f = (k : Int)) (e : ins n (m - 2 ^ k) = behind (ins n m) f) (hs : (f, f) ∉ gs) : (opt gs (ins n (m - 2 ^ k))).1 + lost gs (ins n m) f = (candC gs (ins n m) f).1 := by
  unfold candC
  rw [e, lost_self hs]
  exact Int.add_comm _ _
end
end Pa
set_option Elab.async false
set_option linter.all false
set_option maxRecDepth 100000
set_option maxHeartbeats 4000000
/-! A LAMBDA that is made, and called by sorted as its key: own work -/
namespace L2
open PySem PySem.Spec PyProof.Rows

/-- the context of a lambda's body -/
def lamCx (X : Cx) (A : Around) (qual : Str) (sc : Scope) (cl : List (Str × Addr)) (f : Addr) (cd : Value) (N : List Str) (s2 : Shared) (H2 : Hp) : Cx where
  prog := X.prog
  w := X.w
  K := X.K
  mg := X.mg
  base := X.base
  A := A.deeper (PySem.W.envX qual sc s2.heap.objs.size f cd cl)
  N := N
  s₀ := s2
  H₀ := H2
  env := PySem.W.envX qual sc s2.heap.objs.size f cd cl
  outer := X.stack
  stack := PySem.W.envX qual sc s2.heap.objs.size f cd cl :: X.stack
  ex := []
  fn := fun _ => false
  calm := true
  pn := []
  xe := fun _ _ => False
/-- the slots at its start: the parameter, the captured values -/
def lamSt (caps : List Nat) (σ : St) (v : V) : St := some v :: caps.map fun j => (σ[j]?).join

section
variable {X : Cx} {sc : Scope} {N : List Str} {caps : List Nat} {cl : List (Str × Addr)} {pins : List (Addr × Obj)} {s : Shared} {σ : St} {H : Hp} {A : Around} {qual : Str} {f : Addr} {cd : Value}
theorem no_mem {α : Type} {b : α} {p : Prop} (h : b ∈ ([] : List α)) : p := by cases h
theorem lam_ok (S : CmpScope X.env.scope X.N sc N 1 caps) (I : Inv X pins σ H s) (hA : A.frames = some X.stack) (hh : A.handled = none)
    (hsub : ∀ x c, cl.lookup x = some c → X.env.cells.lookup x = some c) (hall : ∀ y ∈ sc.names, y.2 = .free → ∃ c, cl.lookup y.1 = some c) : (lamCx X A qual sc cl f cd N s H).Ok where
  mod := I.ok.mod
  kind := S.kind
  glob := rfl
  blt := rfl
  above := Nat.le_refl _
  inj := fun x y c h1 h2 => I.ok.inj x y c (hsub x c h1) (hsub y c h2)
  has := fun x hk => by
    have hk : sc.names.lookup x = some .cell ∨ sc.names.lookup x = some .free := hk
    rcases hk with hk | hk
    · exact absurd rfl (S.nocell (x, .cell) (PySem.mem_of_lookup hk))
    · exact hall (x, .free) (PySem.mem_of_lookup hk) rfl
  cab := fun x c h => Bool.noConfusion (show false = true from h)
  hd := fun _ => hh
  frames := Around.frames_deeper hA
  stk := .inr ⟨rfl, rfl⟩
  exf := fun b hb => no_mem hb
  bs := fun b o e => I.bs b o e
  bsz := Nat.le_trans I.ok.bsz I.sz
  noex := fun b o e hb => no_mem hb
  exfs := fun b hb => no_mem hb
  funs := I.stack
  frf := fun b hb => I.stkFree b hb
theorem lam_inv {h1 : Heap} {tk : Nat} {x : Str} {u : Value} {v : V} (S : CmpScope X.env.scope X.N sc N 1 caps) (I : Inv X pins σ H s) (ok : (lamCx X A qual sc cl f cd N s H).Ok) (hx : N[0]? = some x) (hxl : sc.names.lookup x = some .local) (rv : RelV v u)
    (hsub : ∀ x c, cl.lookup x = some c → X.env.cells.lookup x = some c) (hall : ∀ y ∈ sc.names, y.2 = .free → ∃ c, cl.lookup y.1 = some c)
    (keep : ∀ b o, s.heap.get? b = some o → h1.get? b = some o) (hn : h1.Ns s.heap.objs.size fun y => [(x, u)].reverse.lookup y) :
    Inv (lamCx X A qual sc cl f cd N s H) [] (lamSt caps σ v) H { s with heap := h1, toks := tk } := by
  have hcell : ∀ x c, cl.lookup x = some c → ∃ v, s.heap.IsCell c v ∧ H c = none := fun x c h => by
    obtain ⟨v, q⟩ := I.cell x c (hsub x c h)
    exact ⟨v, q, I.freeC x c (hsub x c h)⟩
  refine ⟨ok, rfl, I.bare, Un.kept keep, ⟨_, hn, fun i y z e1 e2 e3 => ?_⟩, fun y c h => ?_, I.hok.fresh (Nat.le_refl _), fun y c h => ?_, fun q hq => no_mem hq, I.hok.kept keep, ?_⟩
  · cases i with
    | zero =>
      have e1 : N[0]? = some y := e1
      rw [hx] at e1
      injection e1 with e1
      subst e1
      have e2 : some (some v) = some (some z) := e2
      injection e2 with e2
      injection e2 with e2
      subst e2
      exact ⟨u, rv, .inl ⟨hxl, by show List.lookup x [(x, u)] = some u; rw [List.lookup_cons, beq_self_eq_true]⟩⟩
    | succ i =>
      have e2 : (caps.map fun j => (σ[j]?).join)[i]? = some (some z) := e2
      rw [List.getElem?_map] at e2
      cases ej : caps[i]? with
      | none => rw [ej] at e2; cases e2
      | some j =>
        rw [ej] at e2
        have e2' : (σ[j]?).join = some z := Option.some.inj e2
        have ex : (N.drop 1)[i]? = some y := by
          rw [List.getElem?_drop, show 1 + i = i + 1 by omega]
          exact e1
        have hm : (y, j) ∈ (N.drop 1).zip caps := by
          refine List.mem_of_getElem? (i := i) ?_
          rw [List.getElem?_zip_eq_some]
          exact ⟨ex, ej⟩
        obtain ⟨c1, c2, c3⟩ := S.cap (y, j) hm
        have e2'' : σ[j]? = some (some z) := by
          cases q : σ[j]? with
          | none => rw [q] at e2'; cases e2'
          | some z => rw [q] at e2'; exact congrArg some e2'
        obtain ⟨m, _, hl⟩ := I.loc
        have vis : Vis X.env.scope y := by
          rcases c3 with c3 | c3
          · exact .inr (.inl c3)
          · exact .inr (.inr c3)
        obtain ⟨u', ru, l⟩ := hl j y z c1 e2'' vis
        refine ⟨u', ru, ?_⟩
        rcases l with ⟨k, _⟩ | ⟨_, c, hc, hcc⟩
        · rcases c3 with c3 | c3
          · have z := Option.some.inj (k.symm.trans c3)
            cases z
          · have z := Option.some.inj (k.symm.trans c3)
            cases z
        · obtain ⟨c', hc'⟩ := hall (y, .free) (PySem.mem_of_lookup c2) rfl
          have ecc : c' = c := Option.some.inj ((hsub y c' hc').symm.trans hc)
          subst ecc
          obtain ⟨o, ho, hd⟩ := hcc
          exact .inr ⟨.inr c2, c', hc', o, keep _ o ho, hd⟩
  · obtain ⟨v, ⟨o, ho, hd⟩, _⟩ := hcell y c h
    exact ⟨v, o, keep _ o ho, hd⟩
  · obtain ⟨v, q, hn'⟩ := hcell y c h
    exact hn'
  · show (lamSt caps σ v).length = N.length
    unfold lamSt
    rw [List.length_cons, List.length_map, S.len]
    omega
/-- the lambda is called -/
theorem lam_call {E : Value → Shared → Prop} {Q : VK} {te : TE} {body : Expr} {params : Arguments} {name : Str} {pm ctv : Value} {c' : Addr} {u : Value} {v : V} {x : Str} {k : Nat}
    (S : CmpScope X.env.scope X.N sc N 1 caps) (hco : sc.isCoroutine = false) (hgen : sc.isGenerator = false) (hx : N[0]? = some x) (hxl : sc.names.lookup x = some .local) (hA : A.frames = some X.stack) (hr : Room (k + 1) A) (I : Inv X pins σ H s)
    (ho : s.heap.get? f = some (PySem.W.kla_obj name qual params body sc cl pm c' ctv)) (hcd : s.heap.CodeRec (.ref c') qual) (hb : bindArgs (PySem.W.kla_fn name qual params body sc cl pm (.ref c') ctv) ⟨[u], []⟩ = pure [(x, u)])
    (hsub : ∀ x c, cl.lookup x = some c → X.env.cells.lookup x = some c) (hall : ∀ y ∈ sc.names, y.2 = .free → ∃ c, cl.lookup y.1 = some c) (rv : RelV v u)
    (hbody : PE (lamCx X A qual sc cl f (.ref c') N s H) body te) (h : te (lamSt caps σ v) H Q) : wpAny (model X.prog X.w) A (call (.ref f) [u]) (EP X pins σ Q) E s := by
  refine wpAny_call (PySem.W.kla_callFunE hr.depth ho rfl hco hgen rfl hcd ?_)
  rw [hb]
  refine wpAny_pure (wpAny_newFunctionEnv S.nocell (fun y hy => ?_) (fun h1 hns hsb => ⟨I.nolimit.fresh _ hsb, ?_⟩) S.kind)
  · rw [List.mem_singleton.mp hy]
    exact hxl
  show codeAny _ _ (.expr body (PySem.W.envX qual sc s.heap.objs.size f (.ref c') cl)) _ _
  have keep : ∀ b o, s.heap.get? b = some o → h1.get? b = some o := fun b o e => hsb.extBut b o (Nat.ne_of_lt (Heap.lt_size e)) (Heap.get?_push_of_some _ e)
  have ok := lam_ok (A := A) (qual := qual) (f := f) (cd := .ref c') S I hA hr.hd hsub hall
  have I1 := lam_inv (tk := s.toks + 1) S I ok hx hxl rv hsub hall keep hns
  refine PySem.W.kla_codeExpr (wpAny_mono (hbody [] _ (lamSt caps σ v) H Q I1 h) (fun v5 s5 ⟨z, H5, I5, r5, q5⟩ => ?_) fun _ _ z => False.elim z)
  exact ⟨z, H5, I.call' (ch := []) I5.os I5.base I5.hok I5.bare (fun b hb => no_mem hb), r5, q5⟩
end
/-- the module of the builtins, where a def is made -/
def BtAt (mg : Str → Option Value) (base : Heap) : Prop := ∃ bm ob, mg "__builtins__" = some (.ref bm) ∧ bm ≠ builtinsNs ∧ base.get? bm = some ob ∧ ob.cls = .type "module" ∧ ob.dict = some builtinsNs ∧ ob.data = .plain
section
variable {X : Cx} {sc : Scope} {N : List Str} {caps : List Nat} {pins : List (Addr × Obj)} {s : Shared} {σ : St} {H : Hp}
/-- a table grown, new things laid -/
theorem Inv.grown {P : Addr} {ps more : Array Value} {h' : Heap} {tk : Nat} (I : Inv X pins σ H s) (hP : H P = some (.tbl ps)) (hx : Heap.ExtBut P s.heap h') (e : h'.get? P = some (PySem.W.tabObj (ps ++ more))) :
    Inv X pins σ (upd H P (.tbl (ps ++ more))) { s with heap := h', toks := tk } := by
  have neP : ∀ b, H b = none → b ≠ P := fun b n z => by rw [z, hP] at n; cases n
  have hok' : HOk X.prog X.w (upd H P (.tbl (ps ++ more))) h' := by
    intro b u q
    by_cases hb : b = P
    · subst hb
      rw [upd_same] at q
      cases q
      exact e
    · rw [upd_ne hb] at q
      have ok := I.hok b u q
      refine ok.stay (fun c v hc r => hx c v ?_ r) (fun c r => ?_) fun c xs r => ?_
      · rintro rfl
        rcases hc with z | z
        · exact hb z.symm
        · rw [hP] at z; cases z
      · rw [upd_ne (fun z => by rw [z, hP] at r; cases r)]; exact r
      · rw [upd_ne (fun z => by rw [z, hP] at r; cases r)]; exact r
  refine I.un (h' := h') (t' := tk) ?_ hok'
  refine ⟨fun b o q n _ _ => hx b o (neP b n) q, fun b o q n _ _ => ⟨o.slots, hx b o (neP b n) q⟩, fun b o q n _ => by rw [upd_ne (neP b n)]; exact n, fun b o q _ => ?_, fun b xs q => ?_, fun b o u q => ?_, fun b qs q => ?_⟩
  · by_cases hb : b = P
    · subst hb; exact ⟨_, e⟩
    · exact ⟨o, hx b o hb q⟩
  · rw [upd_ne (fun z => by rw [z, hP] at q; cases q)]; exact q
  · rw [upd_ne (fun z => by rw [z, hP] at q; cases q)]; exact q
  · by_cases hb : b = P
    · subst hb
      rw [hP] at q
      cases q
      exact ⟨more, upd_same⟩
    · exact ⟨#[], by rw [upd_ne hb, q]; simp⟩
theorem lam_make {Q : Value → Shared → Prop} {E : Value → Shared → Prop} {params : Arguments} {body : Expr} {pos : Pos} {c P : Addr} {ps : Array Value} (S : CmpScope X.env.scope X.N sc N 1 caps) (I : Inv X pins σ H s)
    (hdef : defaultsOf params X.env = ([], [])) (hcode : X.env.code = .ref c) (C : PySem.W.CodeHd X.base c P) (B : BtAt X.mg X.base) (hP : H P = some (.tbl ps)) (ht : TriplesOk ps.toList) (hnf : codeAmong pos ps.toList = none)
    (h : ∀ (f c' : Addr) (oc : Obj) (pm ctv : Value) (cl : List (Str × Addr)) (s' : Shared), Inv X (pins ++ [(f, PySem.W.kla_obj "<lambda>" (X.env.qual ++ "<lambda>") params body sc cl pm c' ctv), (c', oc)]) σ (upd H P (.tbl (ps ++ #[rawInt pos.line, rawInt pos.col, .ref c']))) s' →
      (∀ hh : Heap, hh.get? c' = some oc → hh.CodeRec (.ref c') (X.env.qual ++ "<lambda>")) → (∀ x c, cl.lookup x = some c → X.env.cells.lookup x = some c) → (∀ y ∈ sc.names, y.2 = .free → ∃ c, cl.lookup y.1 = some c) → Q (.ref f) s') :
    wpAny (model X.prog X.w) X.A (eval (.Lambda params body sc pos) X.env) Q E s := by
  obtain ⟨cl, hcl, hsub, hall⟩ := closure_ok I.ok (sc := sc) fun y hy hf => S.free y hy hf
  obtain ⟨bm, ob, b1, b2, b3, b4, b5, b6⟩ := B
  have hPo : s.heap.get? P = some (PySem.W.tabObj ps) := I.hok P _ hP
  have hgs := I.ok.mod.glob.keeps I.bk
  have hgP : mainGlobals ≠ P := fun q => by
    obtain ⟨o, es, ep, e, hd, _⟩ := hgs
    rw [q, hPo] at e; cases e; cases hd
  have hbP : bm ≠ P := fun q => by
    have e := I.bk _ _ b3
    rw [q, hPo] at e; cases e; cases b4
  have hbG : bm ≠ mainGlobals := fun q => by
    obtain ⟨o, es, ep, e, hd, _⟩ := I.ok.mod.glob
    rw [q, e] at b3; cases b3; rw [hd] at b6; cases b6
  refine PySem.W.kla_eval hdef (PySem.W.kla_makeFunction (mg := X.mg) hcl I.ok.glob hgs hcode (C.keeps I.bk) hPo ht hnf hgP ⟨bm, ob, b1, b2, hbG, hbP, I.bk _ _ b3, b4, b5, b6⟩ fun c' ctv h' tk hx hge hlt hrec htb => ?_)
  obtain ⟨c₂, oc, vs, t, e2, hoc, hd, hv⟩ := hrec
  cases e2
  have I1 := (I.grown (tk := tk) hP hx htb).kept (t' := tk) (h' := h'.push (PySem.W.kla_obj "<lambda>" (X.env.qual ++ "<lambda>") params body sc cl ((X.mg "__name__").getD .none) c' ctv)) fun b o e => Heap.get?_push_of_some _ e
  have sz1 : s.heap.objs.size ≤ h'.objs.size := Nat.le_trans hge (Nat.le_of_lt hlt)
  have new : ∀ b, s.heap.objs.size ≤ b → b < h'.objs.size + 1 → (upd H P (.tbl (ps ++ #[rawInt pos.line, rawInt pos.col, .ref c']))) b = none ∧ b ≠ X.env.locals ∧ b ∉ X.fs := fun b hb _ => by
    refine ⟨?_, Nat.ne_of_gt (Nat.lt_of_lt_of_le I.lt hb), I.nofs hb⟩
    rw [upd_ne (fun z => by rw [z] at hb; exact absurd (Heap.lt_size hPo) (Nat.not_lt.mpr hb))]
    exact I.hok.fresh hb
  refine h h'.objs.size c' oc ((X.mg "__name__").getD .none) ctv cl _ (I1.pins_of fun p hp => ?_) (fun hh e => ⟨c', oc, vs, t, rfl, e, hd, hv⟩) hsub hall
  rcases List.mem_append.mp hp with hp | hp
  · exact I1.pin p (List.mem_append_right _ hp)
  · rcases List.mem_cons.mp hp with rfl | hp
    · obtain ⟨n1, n2, n3⟩ := new h'.objs.size sz1 (Nat.lt_succ_self _)
      exact ⟨Heap.get?_push_size _ rfl, n1, n2, n3, fun v z => by cases z⟩
    · rw [List.mem_singleton.mp hp]
      obtain ⟨n1, n2, n3⟩ := new c' hge (Nat.lt_succ_of_lt hlt)
      exact ⟨Heap.get?_push_of_some _ hoc, n1, n2, n3, fun v z => by rw [hd] at z; cases z⟩
end
end L2
set_option Elab.async false
set_option linter.all false
set_option maxRecDepth 100000
set_option maxHeartbeats 4000000
/-! sorted(range(n), key=lambda ..): own work -/
namespace L2
open PySem PySem.Spec PyProof.Rows
section
variable {prog : Program} {w : World} {A : Around} {E : Value → Shared → Prop} {s : Shared}
theorem collect_range {r : Addr} {a b : Int} {t u v : Tok} {n : Nat} {Q : List Value → Shared → Prop} (hh : A.handled = none) (hr : IsRange s.heap r a b 1 t u v) (hsmall : Builtin.Range.small a b 1 = true) (hn : Builtin.Range.rangeSize a b 1 = n) (hz : n ≤ 2 ^ 24)
    (h : ∀ h' tk vs, (∀ b o, s.heap.get? b = some o → h'.get? b = some o) → s.heap.objs.size < h'.objs.size → vs.length = n → (∀ (j : Nat) (v : Value), vs[j]? = some v → ∃ t, v = .int (a + j * 1) t) → Q vs { s with heap := h', toks := tk }) :
    wpAny (model prog w) A (collect (.ref r)) Q E s := by
  unfold collect
  refine wpAny_bind (wpAny_runValue (codeAny_builtin entry_proto_collect' ?_))
  show wpAny _ _ (do again (.builtin "list.__iadd__" ⟨[← newList [], .ref r], []⟩)) _ _ s
  refine wpAny_bind (wpAny_newList (wpAny_pure ⟨Code.quiet_builtin _ (by decide +kernel), codeAny_builtin entry_list_iadd' ?_⟩))
  show wpAny _ _ (Builtin.List.listExtendWith (.ref s.heap.objs.size) (.ref r) (.ref s.heap.objs.size)) _ _ { s with heap := s.heap.push (seqObj "list" #[] 0) }
  rw [Around.under_plainId F.plain_list_iadd _]
  refine wpAny_extend_range (prog := prog) (w := w) (R := fun r s' => match r with | .ok (.ret v) => wpAny (model prog w) A (match v with | .ref a => (do let o ← load a; match o.data with | .seq xs _ => pure xs.toList | _ => unsupported "internal:collect") | _ => unsupported "internal:collect") Q E s' | .ok _ => False | .error e => E e s') (s := { s with heap := s.heap.push (seqObj "list" #[] 0) }) hh (Heap.get?_push_of_some _ hr) hsmall hn hz s.heap.objs.size _ 0 (Heap.get?_push_size _ rfl) fun h' tk acc c hk hD hI => ?_
  show wpAny (model prog w) A (do
      let o ← load s.heap.objs.size
      match o.data with
      | .seq xs _ => pure xs.toList
      | _ => unsupported "internal:collect") Q E { s with heap := h', toks := tk }
  refine wpAny_bind (wpAny_load hD (wpAny_pure ?_))
  exact h h' tk acc.toList (fun b o e => hk b o (Nat.ne_of_lt (Heap.lt_size e)) (Heap.get?_push_of_some _ e)) (Heap.lt_size hD) (by rw [Array.length_toList]; exact hI.1) fun j v hj => hI.2 j v (by rw [← hj, Array.getElem?_toList])
end
section
variable {X : Cx} {pins : List (Addr × Obj)} {s : Shared} {σ : St} {H : Hp}
/-- an untracked new thing is written -/
theorem Inv.poke {ds : List Addr} {h' : Heap} {tk : Nat} (I : Inv X pins σ H s) (hd : ∀ d ∈ ds, (∃ o, s.heap.get? d = some o ∧ ∀ v, o.data ≠ .cell v) ∧ H d = none ∧ X.s₀.heap.objs.size ≤ d ∧ d ≠ X.env.locals ∧ ∀ p ∈ X.pn ++ pins, p.1 ≠ d)
    (hs : ∀ b ob, b ∉ ds → b ≠ X.env.locals → s.heap.get? b = some ob → h'.get? b = some ob) (hn : ∀ m, s.heap.Ns X.env.locals m → h'.Ns X.env.locals m) : Inv X pins σ H { s with heap := h', toks := tk } := by
  refine I.step (g' := s.gens) (d' := s.drawn) (t' := tk) (ch := ds) (fun b hb => ?_) (fun b o n1 _ hb e _ => hs b o hb n1 e) (fun b o n1 _ hb e _ => ⟨o.slots, hs b o hb n1 e⟩) (fun b o _ _ n => n) (fun b o hb e => ?_) (fun _ _ q => q) (fun _ _ _ q => q)
    (fun _ ps q => ⟨#[], by rw [q]; simp⟩) hn (fun b u q => ?_) I.bare
  · obtain ⟨⟨o, e1, e2⟩, n, h0, hl, hp⟩ := hd b hb
    refine ⟨.inr h0, hl, fun x c hc z => ?_, hp⟩
    obtain ⟨v, ob, ho, hdt⟩ := I.cell x c hc
    rw [z, e1] at ho
    cases ho
    exact e2 v hdt
  · by_cases z : b = X.env.locals
    · obtain ⟨m, hm, _⟩ := I.loc
      obtain ⟨o', es, ep, e', _⟩ := hn m hm
      exact ⟨o', z ▸ e'⟩
    · exact ⟨o, hs b o hb z e⟩
  · have tr : ∀ c, H c ≠ none → c ∉ ds ∧ c ≠ X.env.locals := fun c hc => ⟨fun z => hc (hd c z).2.1, fun z => hc (z ▸ I.free)⟩
    refine (I.hok b u q).stay (fun c v hc r => ?_) (fun _ q => q) fun _ _ q => q
    have : H c ≠ none := by
      rcases hc with rfl | hc
      · rw [q]; simp
      · rw [hc]; simp
    exact hs c v (tr c this).1 (tr c this).2 r
/-- an untracked new thing is tracked from now on -/
theorem Inv.track {d : Addr} {o : HO} (I : Inv X pins σ H s) (hn : H d = none) (h0 : X.s₀.heap.objs.size ≤ d) (hl : d ≠ X.env.locals) (hp : ∀ p ∈ X.pn ++ pins, p.1 ≠ d) (hc : ∀ x c, X.env.cells.lookup x = some c → c ≠ d)
    (new : ObjOk X.prog X.w (upd H d o) s.heap d o) : Inv X pins σ (upd H d o) s := by
  have ne : ∀ {b : Addr} {u : HO}, H b = some u → b ≠ d := fun {b u} q z => by rw [z, hn] at q; cases q
  refine ⟨I.ok, I.os, I.bare, ⟨I.base.keep, I.base.slot, fun b ob e n hx => ?_, I.base.there, fun b xs q => ?_, fun b ob u q => ?_, fun b ps q => ?_⟩, I.loc, I.cell, ?_, fun x c e => ?_, fun p hm => ?_, fun b u q => ?_, I.len⟩
  · rw [upd_ne (Nat.ne_of_lt (Nat.lt_of_lt_of_le (Heap.lt_size e) h0))]
    exact I.base.free b ob e n hx
  · have z := I.base.tups b xs q
    rw [upd_ne (ne z)]; exact z
  · have z := I.base.frzs b ob u q
    rw [upd_ne (ne z)]; exact z
  · obtain ⟨more, z⟩ := I.base.tbls b ps q
    exact ⟨more, by rw [upd_ne (ne z)]; exact z⟩
  · rw [upd_ne (Ne.symm hl)]; exact I.free
  · rw [upd_ne (hc x c e)]; exact I.freeC x c e
  · obtain ⟨a1, a2, a3⟩ := I.pin p hm
    exact ⟨a1, by rw [upd_ne (hp p hm)]; exact a2, a3⟩
  · by_cases hb : b = d
    · subst hb; rw [upd_same] at q; cases q; exact new
    · rw [upd_ne hb] at q
      exact (I.hok b u q).stay (fun _ _ _ r => r) (fun c r => by rw [upd_ne (ne r)]; exact r) fun c xs r => by rw [upd_ne (ne r)]; exact r
end
/-- the whole heap but three -/
def ledger3 (h : Heap) (L d e : Addr) : List (Addr × Obj) := (List.range h.objs.size).filterMap fun a => if a = L ∨ a = d ∨ a = e then none else (h.get? a).map fun o => (a, o)
theorem mem_ledger3 {h : Heap} {L d e a : Addr} {o : Obj} : (a, o) ∈ ledger3 h L d e ↔ a ≠ L ∧ a ≠ d ∧ a ≠ e ∧ h.get? a = some o := by
  unfold ledger3
  rw [List.mem_filterMap]
  constructor
  · rintro ⟨b, _, z⟩
    split at z
    · cases z
    · rename_i hb
      obtain ⟨o', ho, e'⟩ := Option.map_eq_some_iff.mp z
      cases e'
      exact ⟨fun q => hb (.inl q), fun q => hb (.inr (.inl q)), fun q => hb (.inr (.inr q)), ho⟩
  · rintro ⟨n1, n2, n3, ho⟩
    refine ⟨a, List.mem_range.mpr (Heap.lt_size ho), ?_⟩
    rw [if_neg (show ¬ (a = L ∨ a = d ∨ a = e) from fun q => q.elim n1 fun q => q.elim n2 n3), ho]
    rfl
section
variable {X : Cx} {pins : List (Addr × Obj)} {s : Shared} {σ : St} {H : Hp} {A : Around} {E : Value → Shared → Prop} {a kS : Addr}
theorem pairs_nums {kz ns : List Int} {vs out : List Value} (hv : IntsAre vs ns) (h : PyProof.Rows.KskOut false kz vs out) : ∃ qs : List (Int × Int), qs.Perm (kz.zip ns) ∧ qs.Pairwise (fun p q => p.1 ≤ q.1) ∧ IntsAre out (qs.map Prod.snd) := by
  obtain ⟨ps, hp, rfl, hw⟩ := h
  refine ⟨ps.map fun p => (p.1, numOf p.2), ?_, ?_, ?_⟩
  · have e : (kz.zip vs).map (fun p : Int × Value => (p.1, numOf p.2)) = kz.zip ns := by
      rw [← hv.nums, List.zip_map_right]
      rfl
    rw [← e]
    exact hp.map _
  · rw [List.pairwise_map]
    exact List.Pairwise.imp (fun h => by simpa using h) hw
  · have all : ∀ v ∈ ps.map Prod.snd, ∃ n t, v = Value.int n t := fun v hv' => by
      obtain ⟨p, hm, rfl⟩ := List.mem_map.mp hv'
      have z := hp.mem_iff.mp hm
      obtain ⟨x, y⟩ := p
      exact hv.all _ (List.of_mem_zip z).2
    have key : ∀ l : List (Int × Value), (∀ v ∈ l.map Prod.snd, ∃ n t, v = Value.int n t) → IntsAre (l.map Prod.snd) ((l.map fun p => (p.1, numOf p.2)).map Prod.snd) := by
      intro l
      induction l with
      | nil => intro _; exact .nil
      | cons p r ih =>
        intro h
        obtain ⟨n, t, e⟩ := h p.2 (by simp)
        rw [List.map_cons, List.map_cons, List.map_cons, e]
        exact .cons n t (ih fun v hv => h v (by rw [List.map_cons]; exact List.mem_cons_of_mem _ hv))
    exact key ps all
theorem ns_unique {h : Heap} {b : Addr} {m m' : Str → Option Value} (x : h.Ns b m) (y : h.Ns b m') : m = m' := by
  obtain ⟨o, es, ep, e, d, _, f⟩ := x
  obtain ⟨o', es', ep', e', d', _, f'⟩ := y
  rw [e] at e'
  cases e'
  rw [d] at d'
  cases d'
  exact funext fun n => (f n).symm.trans (f' n)
/-- the things of a sort that lie about while the keys are asked -/
def sortPins (fo : List (Addr × Obj)) (kS a : Addr) (kA : Array Value) (e e1 : Nat) : List (Addr × Obj) := fo ++ [(kS, seqObj "list" kA e), (a, seqObj "list" #[] e1)]
/-- list.sort by a key: the keys asked one by one, the things sorted by them -/
theorem sort_rest {f : Addr} {fo : List (Addr × Obj)} {vs : List Value} {ns : List Int} {e1 : Nat} {Q : VK} (J : Nat → List Int → Hp → Prop) (hv : IntsAre vs ns) (h64 : vs.length < 64) (hka : kS ≠ a)
    (hk0 : X.s₀.heap.objs.size ≤ kS) (ha0 : X.s₀.heap.objs.size ≤ a) (hfo : ∀ p ∈ X.pn ++ (pins ++ fo), p.1 ≠ kS ∧ p.1 ≠ a)
    (turn : ∀ (i : Nat) (n : Int) (u : Value) (ks : List Int) (H' : Hp) (s' : Shared) (kA : Array Value) (e : Nat), ns[i]? = some n → vs[i]? = some u → Inv X (pins ++ sortPins fo kS a kA e e1) σ H' s' → J i ks H' →
      wpAny (model X.prog X.w) A (call (.ref f) [u]) (EP X (pins ++ sortPins fo kS a kA e e1) σ fun v H'' => ∃ k, v = .int k ∧ J (i + 1) (ks ++ [k]) H'') (fun _ _ => False) s')
    (I : Inv X (pins ++ sortPins fo kS a #[] 0 e1) σ H s) (h0 : J 0 [] H)
    (hQ : ∀ (ks : List Int) (H' : Hp) (qs : List (Int × Int)), ks.length = ns.length → J ns.length ks H' → H' a = none → qs.Perm (ks.zip ns) → qs.Pairwise (fun p q => p.1 ≤ q.1) → Q (.ref a) (upd H' a (.lst ((qs.map Prod.snd).map V.int)))) :
    wpAny (model X.prog X.w) A (PyProof.Rows.ksk_rest a (.ref f) false vs.toArray e1 (.ref kS)) (fun fin s' => fin = .done (.ret .none) ∧ ∃ H', Inv X pins σ H' s' ∧ Q (.ref a) H') E s := by
  have hlen : ns.length = vs.length := hv.length.symm
  have pinK : ∀ {kA : Array Value} {e : Nat} {H' : Hp} {s' : Shared}, Inv X (pins ++ sortPins fo kS a kA e e1) σ H' s' → s'.heap.get? kS = some (seqObj "list" kA e) ∧ H' kS = none ∧ kS ≠ X.env.locals ∧ kS ∉ X.fs := fun {kA e H' s'} J => by
    obtain ⟨x1, x2, x3, x4, _⟩ := J.pin (kS, seqObj "list" kA e) (List.mem_append_right _ (List.mem_append_right _ (List.mem_append_right _ (.head _))))
    exact ⟨x1, x2, x3, x4⟩
  have pinA : ∀ {kA : Array Value} {e : Nat} {H' : Hp} {s' : Shared}, Inv X (pins ++ sortPins fo kS a kA e e1) σ H' s' → s'.heap.get? a = some (seqObj "list" #[] e1) ∧ H' a = none ∧ a ≠ X.env.locals ∧ a ∉ X.fs := fun {kA e H' s'} J => by
    obtain ⟨x1, x2, x3, x4, _⟩ := J.pin (a, seqObj "list" #[] e1) (List.mem_append_right _ (List.mem_append_right _ (List.mem_append_right _ (.tail _ (.head _)))))
    exact ⟨x1, x2, x3, x4⟩
  have few : ∀ {kA : Array Value} {e : Nat} {H' : Hp} {s' : Shared}, Inv X (pins ++ sortPins fo kS a kA e e1) σ H' s' → Inv X (pins ++ fo) σ H' s' := fun {kA e H' s'} J => J.pins_of fun p hp => J.pin p (List.mem_append_right _ (by
    rcases List.mem_append.mp hp with z | z
    · exact List.mem_append_left _ z
    · exact List.mem_append_right _ (List.mem_append_left _ z)))
  unfold PyProof.Rows.ksk_rest
  refine wpAny_bind (wpAny_rule ?_)
  first
    | rw [List.forIn_toArray]
    | (rw [← Array.forIn_toList]; simp only [List.toList_toArray])
    | rw [← Array.forIn_toList]
  refine wpAny_bind (PyProof.Rows.ksk_fold (fun i s' => ∃ H' ks kA e, Inv X (pins ++ sortPins fo kS a kA e e1) σ H' s' ∧ IntsAre kA.toList ks ∧ ks.length = i ∧ J i ks H') vs 0 s ⟨H, [], #[], 0, I, by simpa using IntsAre.nil, rfl, h0⟩ ?step ?done)
  case step =>
    rintro j x s' hx ⟨H', ks, kA, e, I', hk, hl, hJ⟩
    simp only [Nat.zero_add] at hJ hl ⊢
    have hj : j < vs.length := (List.getElem?_eq_some_iff.mp hx).1
    obtain ⟨n, hn⟩ : ∃ n, ns[j]? = some n := ⟨_, List.getElem?_eq_getElem (by omega)⟩
    have hz : kA.size ≤ vs.length := by
      have h1 := hk.length
      rw [Array.length_toList] at h1
      omega
    refine wpAny_bind (wpAny_attempt (wpAny_mono (turn j n x ks H' s' kA e hn hx I' hJ) (fun v s'' he => ?_) fun _ _ hF => hF.elim))
    obtain ⟨z, H2, I2, r2, k, rfl, hJ2⟩ := he
    obtain ⟨t2, rfl⟩ := r2
    try dsimp only
    obtain ⟨nk, nk1, nk2, nk3⟩ := pinK I2
    obtain ⟨na, na1, na2, na3⟩ := pinA I2
    have s1 := Heap.SameBut.update s''.heap kS (Obj.mapSeq (·.push (.int k t2)))
    obtain ⟨c2, hc2⟩ : ∃ c2, (s''.heap.update kS (Obj.mapSeq (·.push (.int k t2)))).get? kS = some (seqObj "list" (kA.push (.int k t2)) c2) := ⟨_, get?_update_seq nk (·.push (.int k t2))⟩
    have ea : (kA.push (Value.int k t2)).toList = kA.toList ++ [Value.int k t2] := by simp
    refine wpAny_bind (listUpdate_at nk rfl ?_ (by rw [sizeLine_eq]; omega) (Nat.le_trans (Nat.le_of_eq (Array.size_push ..)) (by rw [sizeLine_eq]; omega)))
    have I3 : Inv X (pins ++ fo) σ H2 { s'' with heap := s''.heap.update kS (Obj.mapSeq (·.push (.int k t2))), toks := s''.toks } := (few I2).poke (ds := [kS]) (fun d hd => by
        rw [List.mem_singleton.mp hd]
        exact ⟨⟨_, nk, fun v z => by cases z⟩, nk1, hk0, nk2, fun p hp => (hfo p hp).1⟩) (fun b ob hb _ q => (s1.2 b (fun z => hb (by rw [z]; exact List.mem_singleton.mpr rfl))).trans q)
      (fun m ⟨o, es, ep, q, r⟩ => ⟨o, es, ep, (s1.2 _ (Ne.symm nk2)).trans q, r⟩)
    refine wpAny_pure ⟨rfl, H2, ks ++ [k], kA.push (.int k t2), c2, I3.pins_of fun p hp => ?_, by rw [ea]; exact PyProof.Rows.ksk_snoc hk, by rw [List.length_append, hl]; rfl, hJ2⟩
    rcases List.mem_append.mp hp with z | z
    · exact I3.pin p (List.mem_append_right _ (List.mem_append_left _ z))
    · rcases List.mem_append.mp z with z | z
      · exact I3.pin p (List.mem_append_right _ (List.mem_append_right _ z))
      · rcases List.mem_cons.mp z with rfl | z
        · exact ⟨hc2, nk1, nk2, nk3, fun v z => by cases z⟩
        · rw [List.mem_singleton.mp z]
          exact ⟨(s1.2 a hka.symm).trans na, na1, na2, na3, fun v z => by cases z⟩
  case done =>
    rintro s' ⟨H', ks, kA, e, I', hk, hl, hJ⟩
    rw [Nat.zero_add] at hl hJ
    obtain ⟨nk, nk1, nk2, nk3⟩ := pinK I'
    obtain ⟨na, na1, na2, na3⟩ := pinA I'
    try dsimp only
    refine wpAny_bind (listItems_at nk rfl ?_)
    obtain ⟨m, hm, hloc⟩ := id I'.loc
    refine PyProof.Rows.ksk_end_ (e := e) (h₀ := Att.noObjs s'.heap) (L := X.env.locals) (m := m) (news := ledger3 s'.heap X.env.locals kS a) (Att.fr_all hm) (fun p hp => ?_) hka (fun ⟨_, _⟩ hp => (mem_ledger3.mp hp).2.1) (fun ⟨_, _⟩ hp => (mem_ledger3.mp hp).2.2.1) hk (by omega) h64 fun h3 tk3 out c F3 N3 k3 => ?_
    · rcases List.mem_append.mp hp with z | z
      · obtain ⟨b, o⟩ := p
        obtain ⟨n1, n2, n3, q⟩ := mem_ledger3.mp z
        exact ⟨q, n1, Att.noObjs_get _ _⟩
      · rcases List.mem_cons.mp z with rfl | z
        · exact ⟨nk, nk2, Att.noObjs_get _ _⟩
        · rw [List.mem_singleton.mp z]
          exact ⟨na, na2, Att.noObjs_get _ _⟩
    · obtain ⟨qs, q1, q2, q3⟩ := pairs_nums hv k3
      have ha3 := N3.get (List.Mem.head _)
      have keep : ∀ b ob, b ∉ [kS, a] → b ≠ X.env.locals → s'.heap.get? b = some ob → h3.get? b = some ob := fun b ob hb n1 q => N3.get (List.Mem.tail _ (mem_ledger3.mpr ⟨n1, fun z => hb (by simp [z]), fun z => hb (by simp [z]), q⟩))
      have small : Inv X pins σ H' s' := (few I').pins_of fun p hp => (few I').pin p (List.mem_append_right _ (List.mem_append_left _ hp))
      have hpp : ∀ p ∈ X.pn ++ pins, p.1 ≠ kS ∧ p.1 ≠ a := fun p hp => hfo p (by
        rcases List.mem_append.mp hp with z | z
        · exact List.mem_append_left _ z
        · exact List.mem_append_right _ (List.mem_append_left _ z))
      have I4 : Inv X pins σ H' { s' with heap := h3, toks := tk3 } := small.poke (ds := [kS, a]) (fun d hd => by
          rcases List.mem_cons.mp hd with rfl | hd
          · exact ⟨⟨_, nk, fun v z => by cases z⟩, nk1, hk0, nk2, fun p hp => (hpp p hp).1⟩
          · rw [List.mem_singleton.mp hd]
            exact ⟨⟨_, na, fun v z => by cases z⟩, na1, ha0, na2, fun p hp => (hpp p hp).2⟩) keep (fun m' hm' => by
          rw [ns_unique hm' hm]; exact F3.ns)
      have hql : qs.length = ns.length := by rw [q1.length_eq, List.length_zip, hl]; omega
      have I5 := I4.track (d := a) (o := .lst ((qs.map Prod.snd).map V.int)) na1 ha0 na2 (fun p hp => (hpp p hp).2) (fun x cc hc z => by
          obtain ⟨v, ob, ho, hdt⟩ := I'.cell x cc hc
          rw [z, na] at ho
          cases ho
          cases hdt) ⟨by rw [List.length_map, List.length_map, hql]; exact Nat.le_of_lt (small1000 (by omega)), out.toList, c, vals_ints q3, by rw [Array.toArray_toList]; exact ha3⟩
      exact ⟨rfl, _, I5, hQ ks H' qs (by omega) (by rw [hlen]; exact hJ) na1 q1 q2⟩
/-- sorted(r, key=f), r a range, f a lambda just made -/
theorem sorted_lam {sc : Scope} {N : List Str} {caps : List Nat} {cl : List (Str × Addr)} {te : TE} {body : Expr} {params : Arguments} {name qual : Str} {pm ctv : Value} {c' f r : Addr} {oc : Obj} {x : Str} {k m : Nat} {t1 t2 t3 : Tok} {Q : VK}
    (S : CmpScope X.env.scope X.N sc N 1 caps) (hco : sc.isCoroutine = false) (hgen : sc.isGenerator = false) (hx : N[0]? = some x) (hxl : sc.names.lookup x = some .local)
    (hb : ∀ u, bindArgs (PySem.W.kla_fn name qual params body sc cl pm (.ref c') ctv) ⟨[u], []⟩ = pure [(x, u)]) (hr : Room (k + 3) X.A)
    (hsub : ∀ x c, cl.lookup x = some c → X.env.cells.lookup x = some c) (hall : ∀ y ∈ sc.names, y.2 = .free → ∃ c, cl.lookup y.1 = some c) (hcd : ∀ hh : Heap, hh.get? c' = some oc → hh.CodeRec (.ref c') qual)
    (hbody : ∀ s2 H2, Room k (lamCx X X.A.in1.in1 qual sc cl f (.ref c') N s2 H2).A → PE (lamCx X X.A.in1.in1 qual sc cl f (.ref c') N s2 H2) body te)
    (I : Inv X (pins ++ [(f, PySem.W.kla_obj name qual params body sc cl pm c' ctv), (c', oc)]) σ H s) (hrg : IsRange s.heap r 0 m 1 t1 t2 t3) (h64 : m < 64) (J : Nat → List Int → Hp → Prop) (h0 : J 0 [] H)
    (hs : ∀ i ks H', i < m → J i ks H' → te (lamSt caps σ (.int (0 + (i : Int)))) H' fun v H'' => ∃ k, v = .int k ∧ J (i + 1) (ks ++ [k]) H'')
    (hQ : ∀ (ks : List Int) (H' : Hp) (a : Addr) (qs : List (Int × Int)), ks.length = m → J m ks H' → H' a = none → qs.Perm (ks.zip (PySem.W.rangeKs 0 m)) → qs.Pairwise (fun p q => p.1 ≤ q.1) → Q (.ref a) (upd H' a (.lst ((qs.map Prod.snd).map V.int)))) :
    wpAny (model X.prog X.w) X.A (call (.builtin "sorted") [.ref r] [(Str.ofString "key", .ref f)]) (EP X pins σ Q) E s := by
  refine call_function_entry_kw kind_sorted plain_sorted entry_sorted (PyProof.Rows.ksk_s1 _ _) ?_
  unfold Builtin.«sorted»
  refine wpAny_bind (m := checkCount "sorted" 1 1 _) (wpAny_pure ?_)
  have hsz : Builtin.Range.rangeSize 0 (m : Int) 1 = (m : Int) := by rw [rangeSize_one]; split <;> omega
  refine wpAny_bind (collect_range hr.hd hrg (small_one (by omega) (by omega) (by omega) (by omega)) hsz (by omega) fun h1 tk vs keep1 hsz1 hvl hvi => ?_)
  have hv : IntsAre vs (PySem.W.rangeKs 0 m) := PySem.W.kll_ints vs 0 m hvl hvi
  refine wpAny_bind (wpAny_newList ?_ (by rw [sizeLine_eq]; omega))
  have ho : (h1.push { cls := .type "list", data := .seq vs.toArray }).get? h1.objs.size = some (seqObj "list" vs.toArray 0) := Heap.get?_push_size _ rfl
  refine wpAny_bind (wpAny_holding (wpAny_call_entry_kw slot_list_sort ⟨_, ho, rfl⟩ entry_list_sort ?body (PyProof.Rows.ksk_l1 _ _)))
  case body =>
    show wpAny (model X.prog X.w) X.A.in1.in1 (Builtin.«list.sort» ⟨[.ref h1.objs.size], [(Str.ofString "key", .ref f)]⟩) _ _ _
    rw [PyProof.Rows.ksk_t1]
    generalize hh2 : h1.push { cls := .type "list", data := .seq vs.toArray } = h2 at ho ⊢
    have keep2 : ∀ b o, h1.get? b = some o → h2.get? b = some o := fun b o e => hh2 ▸ Heap.get?_push_of_some _ e
    have sz2 : h2.objs.size = h1.objs.size + 1 := by rw [← hh2, Heap.size_push]
    have hs1 : s.heap.objs.size ≤ h1.objs.size := Nat.le_of_lt hsz1
    have s1 := Heap.SameBut.update h2 h1.objs.size (Obj.mapSeq fun _ => (#[] : Array Value))
    obtain ⟨e1, ho1⟩ : ∃ e1, (h2.update h1.objs.size (Obj.mapSeq fun _ => (#[] : Array Value))).get? h1.objs.size = some (seqObj "list" #[] e1) := ⟨_, get?_update_seq ho fun _ => #[]⟩
    unfold PyProof.Rows.ksk_tree
    refine wpAny_bind (listItems_at ho rfl ?_)
    refine wpAny_bind (listUpdate_at ho rfl ?_ (by rw [List.size_toArray, sizeLine_eq]; omega) (Nat.zero_le _))
    refine wpAny_bind (seqEpoch_at ho1 rfl ?_)
    refine wpAny_bind (wpAny_newTuple ?_ (by show vs.length ≤ _; rw [sizeLine_eq]; omega))
    refine wpAny_bind (wpAny_newList ?_ (Nat.zero_le _))
    refine wpAny_holding ?_
    generalize hh3 : h2.update h1.objs.size (Obj.mapSeq fun _ => (#[] : Array Value)) = h3 at s1 ho1 ⊢
    have keep3 : ∀ b o, s.heap.get? b = some o → h3.get? b = some o := fun b o e => (s1.2 b (Nat.ne_of_lt (Nat.lt_of_lt_of_le (Heap.lt_size e) hs1))).trans (keep2 b o (keep1 b o e))
    have sz3 : h3.objs.size = h1.objs.size + 1 := by rw [← hh3, Heap.size_update, sz2]
    generalize hh4 : h3.push { cls := .type "tuple", data := .seq vs.toArray.toList.toArray } = h4
    have keep4 : ∀ b o, h3.get? b = some o → h4.get? b = some o := fun b o e => hh4 ▸ Heap.get?_push_of_some _ e
    have sz4 : h4.objs.size = h1.objs.size + 2 := by rw [← hh4, Heap.size_push, sz3]
    have keep5 : ∀ b o, s.heap.get? b = some o → (h4.push { cls := .type "list", data := .seq ([] : List Value).toArray }).get? b = some o := fun b o e => Heap.get?_push_of_some _ (keep4 b o (keep3 b o e))
    have I5 := I.kept (t' := tk) keep5
    have fresh : ∀ b, s.heap.objs.size ≤ b → H b = none ∧ b ≠ X.env.locals ∧ b ∉ X.fs := fun b hb => ⟨I.hok.fresh hb, Nat.ne_of_gt (Nat.lt_of_lt_of_le I.lt hb), I.nofs hb⟩
    have I6 : Inv X (pins ++ sortPins [(f, PySem.W.kla_obj name qual params body sc cl pm c' ctv), (c', oc)] h4.objs.size h1.objs.size #[] 0 e1) σ H { s with heap := h4.push { cls := .type "list", data := .seq ([] : List Value).toArray }, toks := tk } := by
      refine I5.pins_of fun p hp => ?_
      rcases List.mem_append.mp hp with z | z
      · exact I5.pin p (List.mem_append_right _ (List.mem_append_left _ z))
      · rcases List.mem_append.mp z with z | z
        · exact I5.pin p (List.mem_append_right _ (List.mem_append_right _ z))
        · rcases List.mem_cons.mp z with rfl | z
          · obtain ⟨n1, n2, n3⟩ := fresh h4.objs.size (by omega)
            exact ⟨Heap.get?_push_size _ rfl, n1, n2, n3, fun v z => by cases z⟩
          · rw [List.mem_singleton.mp z]
            obtain ⟨n1, n2, n3⟩ := fresh h1.objs.size hs1
            exact ⟨Heap.get?_push_of_some _ (keep4 _ _ ho1), n1, n2, n3, fun v z => by cases z⟩
    have hfo : ∀ p ∈ X.pn ++ (pins ++ [(f, PySem.W.kla_obj name qual params body sc cl pm c' ctv), (c', oc)]), p.1 ≠ h4.objs.size ∧ p.1 ≠ h1.objs.size := fun p hp => by
      have z := Heap.lt_size (I.pin p hp).1
      exact ⟨Nat.ne_of_lt (Nat.lt_of_lt_of_le z (by omega)), Nat.ne_of_lt (Nat.lt_of_lt_of_le z hs1)⟩
    have hI0 := I.sz
    refine wpAny_mono (sort_rest (X := X) (pins := pins) (σ := σ) (a := h1.objs.size) (kS := h4.objs.size) (f := f) (fo := [(f, PySem.W.kla_obj name qual params body sc cl pm c' ctv), (c', oc)]) (vs := vs) (ns := PySem.W.rangeKs 0 m) (e1 := e1) (Q := Q) J hv (by omega) (Nat.ne_of_gt (show h1.objs.size < h4.objs.size by omega)) (Nat.le_trans hI0 (show s.heap.objs.size ≤ h4.objs.size by omega)) (Nat.le_trans hI0 hs1) hfo
      (fun i n u ks H' s' kA e hn hu I' hJ => ?_) I6 h0 (fun ks H' qs e1 e2 e3 e4 e5 => hQ ks H' _ qs (by rw [e1, PySem.W.rangeKs_length]) (by rw [PySem.W.rangeKs_length] at e2; exact e2) e3 e4 e5)) (fun fin s' ⟨e, H', I', q⟩ => ⟨_, e, ?_⟩) fun _ _ z => z
    · have hi : i < m := by rw [← hvl]; exact (List.getElem?_eq_some_iff.mp hu).1
      obtain ⟨tu, rfl⟩ := hvi i u hu
      have pf := I'.pin (f, PySem.W.kla_obj name qual params body sc cl pm c' ctv) (List.mem_append_right _ (List.mem_append_right _ (List.mem_append_left _ (.head _))))
      have pc := I'.pin (c', oc) (List.mem_append_right _ (List.mem_append_right _ (List.mem_append_left _ (.tail _ (.head _)))))
      exact lam_call (k := k) (v := .int (0 + (i : Int))) S hco hgen hx hxl I'.ok.frames hr.in1.in1 I' pf.1 (hcd _ pc.1) (hb _) hsub hall ⟨tu, by rw [Int.mul_one]⟩ (hbody s' H' (hr.in1.in1.deeper _)) (hs i ks H' hi hJ)
    · exact wpAny_pure ⟨_, rfl, .ref h1.objs.size, H', I', rfl, q⟩
end
end L2
set_option Elab.async false
set_option linter.all false
set_option maxRecDepth 100000
set_option maxHeartbeats 4000000
/-! range(n) as a thing, list(range(n)), tuple(..), sorted(range(n), key=lambda ..): own work -/
namespace L2
open PySem PySem.Spec PyProof.Rows
section
variable {X : Cx} {p pos : Pos} {e : Expr} {te : TE} {ta : TA}
/-- range(n), kept as a thing -/
def rRange : List V → Hp → VK → Prop := fun vs H Q => ∃ j : Nat, vs = [.int j] ∧ j < 2 ^ 20 ∧ ∀ r, H r = none → Q (.ref r) (upd H r (.rng 0 j))
theorem call_rangeV : CallR X (.type "range") rRange := by
  intro pins s σ H xs us Q I r h
  obtain ⟨j, rfl, hj, q⟩ := h
  obtain ⟨u, rfl, ru⟩ := vals1 r
  obtain ⟨t, rfl⟩ := ru
  refine call_range_1 ⟨.ref s.heap.objs.size, _, I.laid (o := .rng 0 j) (fun b o e => Heap.get?_push_of_some _ e) (Nat.le_refl _) ⟨_, _, _, Heap.get?_push_size _ rfl⟩, rfl, q _ (I.hok.fresh (Nat.le_refl _))⟩
/-- list(range(n)) -/
def rListRng : List V → Hp → VK → Prop := fun vs H Q => ∃ (r : Addr) (j : Nat), vs = [.ref r] ∧ H r = some (.rng 0 j) ∧ j < 2 ^ 20 ∧ ∀ l, H l = none → Q (.ref l) (upd H l (.lst ((PySem.W.rangeKs 0 j).map V.int)))
theorem call_listRng (hc : X.calm = true) : CallR X (.type "list") rListRng := by
  intro pins s σ H xs us Q I r h
  obtain ⟨r', j, rfl, hr, hj, q⟩ := h
  obtain ⟨u, rfl, ru⟩ := vals1 r
  cases ru
  obtain ⟨t, u, v, hh⟩ := I.hok _ _ hr
  have hsz : Builtin.Range.rangeSize 0 (j : Int) 1 = (j : Int) := by rw [rangeSize_one]; split <;> omega
  refine call_list_range (I.ok.hd hc) hh (small_one (by omega) (by omega) (by omega) (by omega)) hsz (by omega) fun h' tk acc c hk hD hI => ?_
  have hv : IntsAre acc.toList (PySem.W.rangeKs 0 j) := PySem.W.kll_ints _ _ _ (by rw [Array.length_toList]; exact hI.1) fun i v hi => hI.2 i v (by rw [← hi, Array.getElem?_toList])
  refine ⟨.ref s.heap.objs.size, _, I.laid (o := .lst ((PySem.W.rangeKs 0 j).map V.int)) hk (Nat.le_refl _) ⟨?_, acc.toList, c, vals_ints hv, by rw [Array.toArray_toList]; exact hD⟩, rfl, q _ (I.hok.fresh (Nat.le_refl _))⟩
  rw [List.length_map, PySem.W.rangeKs_length, sizeLine_eq]
  omega
/-- sorted(range(m), key=lambda ..), made for the first time: P is the table of the def that makes the lambda -/
def tSortLam (P : Addr) (caps : List Nat) (te : TE) (ta : TA) : TE := fun σ H Q => ta σ H fun vs H1 => ∃ (r : Addr) (m : Nat), vs = [.ref r] ∧ H1 r = some (.rng 0 m) ∧ m < 64 ∧ H1 P = some (.tbl #[]) ∧ ∀ more, ∃ J : Nat → List Int → Hp → Prop,
  J 0 [] (upd H1 P (.tbl more)) ∧ (∀ i ks H', i < m → J i ks H' → te (lamSt caps σ (.int (0 + (i : Int)))) H' fun v H'' => ∃ k, v = .int k ∧ J (i + 1) (ks ++ [k]) H'') ∧
  ∀ (ks : List Int) (H' : Hp) (a : Addr) (qs : List (Int × Int)), ks.length = m → J m ks H' → H' a = none → qs.Perm (ks.zip (PySem.W.rangeKs 0 m)) → qs.Pairwise (fun p q => p.1 ≤ q.1) → Q (.ref a) (upd H' a (.lst ((qs.map Prod.snd).map V.int)))
theorem pe_sortLam {sc : Scope} {N : List Str} {caps : List Nat} {body : Expr} {params : Arguments} {kpos lpos : Pos} {c P : Addr} {x : Str} {k : Nat} (hg : Gl X "sorted") (hm : X.mg "sorted" = none) (ha : PA X [e] ta)
    (S : CmpScope X.env.scope X.N sc N 1 caps) (hco : sc.isCoroutine = false) (hgen : sc.isGenerator = false) (hx : N[0]? = some x) (hxl : sc.names.lookup x = some .local) (hdef : defaultsOf params X.env = ([], [])) (hcode : X.env.code = .ref c)
    (C : PySem.W.CodeHd X.base c P) (B : BtAt X.mg X.base) (hb : ∀ cl pm c' ctv u, bindArgs (PySem.W.kla_fn "<lambda>" (X.env.qual ++ "<lambda>") params body sc cl pm (.ref c') ctv) ⟨[u], []⟩ = pure [(x, u)]) (hr : Room (k + 3) X.A)
    (hbody : ∀ cl f cd s2 H2, Room k (lamCx X X.A.in1.in1 (X.env.qual ++ "<lambda>") sc cl f cd N s2 H2).A → PE (lamCx X X.A.in1.in1 (X.env.qual ++ "<lambda>") sc cl f cd N s2 H2) body te)
    (he : starEach [e] X.env = [(false, eval e X.env)] := by rfl) :
    PE X (.Call (.Name "sorted" p) [e] [⟨some "key", .Lambda params body sc lpos, kpos⟩] pos) (tSortLam P caps te ta) := by
  intro pins s σ H Q I h
  refine wpAny_Call_Name_kw (ld_blt I hg hm boot_sorted ?_ (by decide) (by decide))
  refine callWith_kw (thn (ha pos pins s σ H _ I h) fun us s1 ⟨vs, H1, I1, r1, q1⟩ => ?_) (by rw [he]; rfl) (by rw [he]; rfl) rfl rfl
  obtain ⟨r, m, rfl, hrg, h64, hP, q⟩ := q1
  obtain ⟨u, rfl, ru⟩ := vals1 r1
  cases ru
  show wpAny _ _ (evalAll [do let v ← eval (.Lambda params body sc lpos) X.env; standAt pos; pure v]) _ _ s1
  refine wpAny_evalAll_cons (wpAny_bind (lam_make S I1 hdef hcode C B hP trivial rfl fun f c' oc pm ctv cl s2 I2 hcd hsub hall => wpAny_bind (wpAny_standAt (wpAny_pure ?_))))
  refine wpAny_evalAll_nil ?_
  obtain ⟨J, j0, js, jq⟩ := q (#[] ++ #[rawInt lpos.line, rawInt lpos.col, .ref c'])
  have hrP : r ≠ P := fun z => by rw [z, hP] at hrg; cases hrg
  obtain ⟨t1, t2, t3, hh⟩ := I2.hok r (.rng 0 m) (by rw [upd_ne hrP]; exact hrg)
  exact sorted_lam (k := k) S hco hgen hx hxl (fun u => hb _ _ _ _ u) hr hsub hall hcd (fun s3 H3 hr3 => hbody _ _ _ s3 H3 hr3) I2 hh h64 J j0 js jq
end
end L2
namespace L2
open PySem PySem.Spec PyProof.Rows
theorem bt_range : bootBuiltins "range" = some (.type "range") := boot_range
end L2
set_option Elab.async false
set_option linter.all false
set_option maxRecDepth 100000
set_option maxHeartbeats 4000000
/-! the head of a law with a table that grows: own work -/
namespace L2
open PySem PySem.Spec PyProof.Rows
theorem law_callT {Pg : Program} {w : World} {K : PySem.W.Frag} {mg mb : Str → Option Value} {CX : CXT} {k : Nat} {fa a c P : Addr} {fd : FuncData} {x : Str} {sp : Sp} {s₁ : Shared} {vs : List Value} {ns : List Int}
    (KX : K.In s₁.heap) (hns : s₁.heap.Ns mainGlobals mg) (hb : s₁.heap.Ns builtinsNs mb) (hbb : ∀ x : Str, x ≠ "__name__" → mb x = bootBuiltins x) (hlim : s₁.heap.NoLimit) (hg : s₁.gens = #[])
    (ha : s₁.heap.get? a = some { cls := .type "list", data := .seq vs.toArray }) (hi : IntsAre vs ns) (hl : ns.length ≤ sizeLine) (hr : Room k callerA) (ht : s₁.heap.TableAt c P #[]) (hKP : K.lookup P = none) (hbt : BtAt mg s₁.heap)
    (F : ∀ base : Heap, K.In base → base.Ns mainGlobals mg → BtAt mg base → FnOk Pg w K mg base CX k fa fd [x] sp) (hbind : ∀ (s : Shared) (u : Value), BindsTo s fd ⟨[u], []⟩ [(x, u)])
    (hsp : ∀ H : Hp, SqL K H a (ns.map V.int) → H P = some (.tbl #[]) → sp [.ref a] H (fun v _ => v = .bl true) fun _ _ _ => False)
    (hCX : ∀ H e s', CX [] H s₁ (fun _ _ _ => False) e s' → False) :
    codeAny (model Pg w) callerA (.call (.ref fa) ⟨[.ref a], []⟩) (fun r s' => r = .ok (.ret (.bool true)) ∧ OldK s₁.heap s'.heap ∧ s'.os = s₁.os ∧ AllBare s'.gens) s₁ := by
  have rv := vals_ints hi
  have lenV := hi.length
  have hPo : s₁.heap.get? P = some { cls := .none, data := .fields #[] } := ht.2
  have hPa : P ≠ a := fun z => by rw [z, ha] at hPo; cases hPo
  have core : ∀ H : Hp, (H a = none ∨ ∃ o xs, H a = some (.frz o (.lst xs))) → SqL K H a (ns.map V.int) → HOk Pg w H s₁.heap → (∀ b, H b ≠ none → b = a ∨ b = P) → (H a ≠ none → K.lookup a = none) → H P = some (.tbl #[]) →
      codeAny (model Pg w) callerA (.call (.ref fa) ⟨[.ref a], []⟩) (fun r s' => r = .ok (.ret (.bool true)) ∧ OldK s₁.heap s'.heap ∧ s'.os = s₁.os ∧ AllBare s'.gens) s₁ := by
    intro H hO hS hok hA hK hP
    have base_of : ∀ {b : Addr} {o : Obj}, s₁.heap.get? b = some o → H b = none → (hidT s₁.heap H).get? b = some o := fun e n => hidT_get e n
    have noA : ∀ {b : Addr} {o : Obj} {es : Array DictEntry} {ep : Nat}, s₁.heap.get? b = some o → o.data = .dict es ep → H b = none := fun {b o es ep} e d => by
      cases q : H b with
      | none => rfl
      | some u =>
        rcases hA b (by rw [q]; simp) with e' | e'
        · subst e'
          rw [ha] at e; cases e
          have d' : Data.seq vs.toArray _ = Data.dict es ep := d
          cases d'
        · subst e'
          rw [hPo] at e; cases e
          have d' : Data.fields #[] = Data.dict es ep := d
          cases d'
    have nsK : ∀ {b : Addr} {m : Str → Option Value}, s₁.heap.Ns b m → (hidT s₁.heap H).Ns b m := fun {b m} ⟨o, es, ep, e, d, r⟩ => ⟨o, es, ep, base_of e (noA e d), d, r⟩
    have hKb : K.In (hidT s₁.heap H) := fun b o e => base_of (KX b o e) (by
      cases q : H b with
      | none => rfl
      | some u =>
        rcases hA b (by rw [q]; simp) with e' | e'
        · subst e'
          rw [hK (by rw [q]; simp)] at e; cases e
        · subst e'
          rw [hKP] at e; cases e)
    have hM : Mod K mg (hidT s₁.heap H) := ⟨hKb, nsK hns, ⟨mb, nsK hb, hbb⟩, let ⟨mc, h1, h2⟩ := hlim; ⟨mc, nsK h1, h2⟩⟩
    have hbt' : BtAt mg (hidT s₁.heap H) := by
      obtain ⟨bm, ob, b1, b2, b3, b4, b5, b6⟩ := hbt
      refine ⟨bm, ob, b1, b2, base_of b3 ?_, b4, b5, b6⟩
      cases q : H bm with
      | none => rfl
      | some u =>
        rcases hA bm (by rw [q]; simp) with e' | e'
        · rw [e', ha] at b3; cases b3; cases b5
        · rw [e', hPo] at b3; cases b3; cases b5
    have e0 : Env0 Pg w K mg (hidT s₁.heap H) callerA [] s₁ H := ⟨rfl, hM, fun b o e => of_hidT e, Nat.le_of_eq (hidT_size _ _), trivial, fun b hb => absurd (show b ∈ ([] : List Addr) from hb) (by simp), hok, .of_eq hg⟩
    refine codeAny_mono ((F _ hKb (nsK hns) hbt').run callerA [] s₁ H ⟨[.ref a], []⟩ [.ref a] [.ref a] _ _ hr e0 (hbind s₁ (.ref a)) (.cons rfl .nil) (hsp H hS hP)) fun r s' h => ?_
    cases r with
    | error e => exact (hCX H e s' h).elim
    | ok fl =>
      cases fl with
      | next => exact False.elim h
      | brk => exact False.elim h
      | cont => exact False.elim h
      | ret u =>
        obtain ⟨v, H', os, bare, un, hok', r', q⟩ := h
        have q' : v = .bl true := q
        subst q'
        obtain rfl : u = Value.bool true := r'
        refine ⟨rfl, ⟨fun b o e => ?_, fun b o e => un.there b o e (by simp)⟩, os, bare⟩
        cases q : H b with
        | none => exact .inl (un.keep b o e q (by intro z; exact absurd (show b ∈ ([] : List Addr) from z) (by simp)) (by simp))
        | some u =>
          rcases hA b (by rw [q]; simp) with e' | e'
          · subst e'
            rcases hO with z | ⟨ob, xs, z⟩
            · rw [q] at z; cases z
            · have z2 := un.frzs b ob _ z
              obtain ⟨e1, _⟩ := hok b _ z
              obtain ⟨e2, _⟩ := hok' b _ z2
              rw [e] at e1; cases e1
              exact .inl e2
          · subst e'
            obtain ⟨more, z⟩ := un.tbls b #[] hP
            have z2 : s'.heap.get? b = some { cls := .none, data := .fields (#[] ++ more) } := hok' b _ z
            rw [hPo] at e
            cases e
            exact .inr (.inl ⟨ht.isCodeTable, rfl, #[], more, rfl, z2⟩)
  cases hk : K.lookup a with
  | some o =>
    have e := KX a o hk
    rw [ha] at e
    cases e
    refine core (upd (fun _ => none) P (.tbl #[])) (.inl (upd_ne (Ne.symm hPa))) (.inr ⟨_, vs.toArray, _, hk, rfl, rfl, rfl, by rw [List.size_toArray, lenV]; exact hl, by simpa using rv⟩) (fun b u z => ?_) (fun b z => ?_) (fun z => absurd (upd_ne (Ne.symm hPa)) z) upd_same
    · by_cases hb : b = P
      · subst hb; rw [upd_same] at z; cases z; exact hPo
      · rw [upd_ne hb] at z; cases z
    · by_cases hb : b = P
      · exact .inr hb
      · exact absurd (upd_ne hb) z
  | none =>
    refine core (upd (fun b => if b = a then some (.frz { cls := .type "list", data := .seq vs.toArray } (.lst (ns.map V.int))) else none) P (.tbl #[])) (.inr ⟨_, _, (upd_ne (Ne.symm hPa)).trans (if_pos rfl)⟩) (.inl (.inr ⟨{ cls := .type "list", data := .seq vs.toArray }, (upd_ne (Ne.symm hPa)).trans (if_pos rfl)⟩)) (fun b u z => ?_) (fun b z => ?_) (fun _ => hk) upd_same
    · by_cases hp : b = P
      · subst hp; rw [upd_same] at z; cases z; exact hPo
      · rw [upd_ne hp] at z
        by_cases hb : b = a
        · have z' := (if_pos hb).symm.trans z
          cases z'
          subst hb
          exact ⟨ha, by rw [List.length_map]; exact hl, vs, _, rv, ha⟩
        · have z' := (if_neg hb).symm.trans z
          cases z'
    · by_cases hp : b = P
      · exact .inr hp
      · by_cases hb : b = a
        · exact .inl hb
        · exact absurd ((upd_ne hp).trans (if_neg hb)) z
theorem walk_ofT {l : PySem.W.OpenLaw} {n k : Nat} {q : Program} {loose : List Str} {XP : (Str → Option Value) → Heap → Prop} {YP : World → Heap → Prop} {d dd : DefRec} {K : Params → PySem.W.Frag} {CX : World → CXT} {sp : World → Addr → Sp} {x y : Str}
    (hn : l.most = some n) (hn2 : n ≤ sizeLine) (hdf : d.params.defaults = []) (hr : Room k callerA)
    (hY : ∀ (w : World) (h : Heap), YP w h → (K w.params).In h) (hrec : (recsOf q).find? (fun e => e.name == y) = some dd)
    (F : ∀ (w : World) (mg : Str → Option Value) (fa : Addr) (h : Heap), (K w.params).In h → h.Ns mainGlobals mg → mg d.name = some (.ref fa) →
      ∃ (fd : FuncData) (c P : Addr), (∀ (s : Shared) (u : Value), BindsTo s fd ⟨[u], []⟩ [(x, u)]) ∧ PySem.W.tabIn (K w.params) y = some (c, P) ∧ (K w.params).lookup P = none ∧
        ∀ base : Heap, (K w.params).In base → base.Ns mainGlobals mg → BtAt mg base → FnOk l.prog w (K w.params) mg base (CX w) k fa fd [x] (sp w P))
    (hsp : ∀ (w : World) (P : Addr) (H : Hp) (a : Addr) (ns : List Int), ns.length ≤ n → SqL (K w.params) H a (ns.map V.int) → H P = some (.tbl #[]) → sp w P [.ref a] H (fun v _ => v = .bl true) fun _ _ _ => False)
    (hCX : ∀ (w : World) (H : Hp) (s : Shared) (e : Value) (s' : Shared), CX w [] H s (fun _ _ _ => False) e s' → False) :
    PySem.W.WalkO q loose XP YP l.row.toRowW d [] (fun f vs => PySem.call f vs) := by
  refine Att.attach_call hn hdf fun w s₀ s₁ mg mb fa o pm cd doc a vs ns G Y ho hd hcd hmg hobj hints hlen hg => ?_
  have KX := hY w _ Y
  obtain ⟨fd, c, P, hb, htab, hKP, hF⟩ := F w mg fa _ KX G.T.g hmg
  obtain ⟨hC, hPo⟩ := PySem.W.tab_of G.T KX hrec htab
  obtain ⟨oc, cvs, _, _, _, _, _, _, _, c1, c2, c3, c4, c5, _⟩ := hC
  have ht : s₁.heap.TableAt c P #[] := ⟨⟨oc, cvs, c1, c2, c3, c4⟩, hPo⟩
  exact law_callT KX G.T.g G.T.b G.T.builtins G.T.nolimit hg hobj hints (Nat.le_trans hlen hn2) hr ht hKP G.T.bmain hF hb (fun H hS hP => hsp w P H a ns hlen hS hP) fun H e s' => hCX w H s₁ e s'
end L2
namespace L2
open PySem PySem.Spec PyProof.Rows
/-- THE RULE for a def, where its code object is asked too -/
theorem Fun.okC {P : Program} {w : World} {K : PySem.W.Frag} {mg : Str → Option Value} {base : Heap} {x qual : Str} {st : Stmt} {f : Addr} {fd : FuncData} {N ps : List Str} {k : Nat} {sp : Sp} (F : Fun K x qual st f fd) (S : FnScope N ps (defScope st)) (len : ∀ vs H Q E, sp vs H Q E → vs.length = ps.length)
    (hbody : ∀ (cdv : Value), fd.code = cdv → ∀ (A : Around) (outer : List Env) (s : Shared) (H : Hp) (vs : List V) (Q : VK) (E : XK), Room k (A.deeper (envOfC qual (defScope st) s.heap.objs.size f cdv)) → sp vs H Q E →
      ∃ t, PSs (cxOf CX0 P w K mg base N qual (defScope st) f cdv A outer s H E).nox (defBody st) t ∧ t { nx := fun _ H' => Q .non H', rt := Q } (start N vs) H) : FnOk P w K mg base CX0 (k + 1) f fd ps sp := by
  obtain ⟨oc, od, kV, doc, pm, an, cdv, ct, osl, rfl, lk, hcd⟩ := F.ex
  refine fn_of lk hcd S len fun A outer s H vs Q E hr hsp => ?_
  obtain ⟨t, h, q⟩ := hbody cdv rfl A outer s H vs Q E hr hsp
  exact ⟨t, h.nox, q⟩
/-- behind an if without else: one state for both ways -/
theorem tseq_join {T U : TS} {D : Ends} {σ : St} {H : Hp} (J : St → Hp → Prop) (h1 : ∀ D' : Ends, D'.rt = D.rt → (∀ σ' H', J σ' H' → D'.nx σ' H') → T D' σ H) (h2 : ∀ σ' H', J σ' H' → U D σ' H') : tSeq T U D σ H :=
  h1 { D with nx := fun σ' H' => U D σ' H' } rfl h2
end L2
namespace L2
open PySem PySem.Spec PyProof.Rows
theorem tab_mk {K : PySem.W.Frag} {mg : Str → Option Value} {x : Str} {st : Stmt} {ps : List Str} {h : Heap} {f c P : Addr} {oc : Value} {od od2 an : Option Addr} {osl sl2 : Array (Option Value)} {kV doc pm ct : Value} {vs : Array Value} {file : Str} {tf tg tt : Tok} {flags text : Int} {inF : Bool} (X : K.In h) (G : h.Ns mainGlobals mg)
    (a : PySem.W.nsIn K mainGlobals x = some (some (.ref f))) (l : K.lookup f = some ⟨oc, od, .func (PySem.W.fnOf x x (defArgs st) (defBody st) (defScope st) .none kV doc pm an (.ref c) ct), osl⟩) (cc : PySem.W.codeIn K (.ref c) x = true) (k : PySem.W.keepIn K (.ref f) = true)
    (hb : ∀ (kV doc pm : Value) (an : Option Addr) (cdv ct : Value) (us : List Value), us.length = ps.length → bindArgs (PySem.W.fnOf x x (defArgs st) (defBody st) (defScope st) .none kV doc pm an cdv ct) ⟨us, []⟩ = pure (ps.zip us))
    (lc : K.lookup c = some ⟨.type "code", od2, .fields vs, sl2⟩) (v11 : vs[11]? = some (.ref P)) (v11' : vs.getD 11 .none = .ref P) (v18 : vs.getD 18 .none = .str file tf) (v7 : vs.getD 7 .none = .int flags tg) (v9 : vs.getD 9 .none = .bool inF) (v10 : vs.getD 10 .none = .int text tt) (ne : c ≠ P)
    (t : PySem.W.tabIn K x = some (c, P)) (n : K.lookup P = none) :
    ∃ (t : DefAt K mg x st ps) (c P : Addr), t.d.code = .ref c ∧ PySem.W.tabIn K x = some (c, P) ∧ K.lookup P = none ∧ ∀ b : Heap, K.In b → PySem.W.CodeHd b c P :=
  ⟨DefAt.of X G a l cc k hb, c, P, rfl, t, n, fun b kb => ⟨_, vs, file, tf, flags, tg, inF, text, tt, kb _ _ lc, rfl, rfl, v11, v11', v18, v7, v9, v10, ne⟩⟩
end L2
set_option Elab.async false
set_option linter.all false
set_option maxRecDepth 100000
set_option maxHeartbeats 4000000
/-! a lambda that is made again and again: own work -/
namespace L2
open PySem PySem.Spec PyProof.Rows
/-- what the table of a def holds that makes one lambda, at pos -/
def TabOk (P : Addr) (pos : Pos) (qual : Str) (H : Hp) : Prop := H P = some (.tbl #[]) ∨ ∃ (c' : Addr) (oc : Obj) (u : HO), H P = some (.tbl #[rawInt pos.line, rawInt pos.col, .ref c']) ∧ H c' = some (.frz oc u) ∧ ∀ hh : Heap, hh.get? c' = some oc → hh.CodeRec (.ref c') qual
/-- all stays but the table -/
def SameT (P : Addr) (H H' : Hp) : Prop := ∀ b o, b ≠ P → H b = some o → H' b = some o
theorem SameT.of {P : Addr} {H H' : Hp} (s : Same H H') : SameT P H H' := fun b o _ e => s b o e
theorem SameT.trans {P : Addr} {H H1 H2 : Hp} (a : SameT P H H1) (b : SameT P H1 H2) : SameT P H H2 := fun c o n e => b c o n (a c o n e)
theorem SameT.refl (P : Addr) (H : Hp) : SameT P H H := fun _ _ _ e => e
theorem TabOk.same {P : Addr} {pos : Pos} {qual : Str} {H H' : Hp} (s : Same H H') (h : TabOk P pos qual H) : TabOk P pos qual H' := by
  rcases h with h | ⟨c', oc, u, h1, h2, h3⟩
  · exact .inl (s _ _ h)
  · exact .inr ⟨c', oc, u, s _ _ h1, s _ _ h2, h3⟩
theorem TabOk.at {P : Addr} {pos : Pos} {qual : Str} {H : Hp} (h : TabOk P pos qual H) : ∃ ps, H P = some (.tbl ps) := by
  rcases h with h | ⟨_, _, _, h, _⟩
  · exact ⟨_, h⟩
  · exact ⟨_, h⟩
theorem SameT.ts {P : Addr} {H H' : Hp} {ps : Array Value} (h : SameT P H H') (hP : H P = some (.tbl ps)) : TupS H H' := fun b xs e => h b _ (fun z => by rw [z, hP] at e; cases e) e
section
variable {X : Cx} {sc : Scope} {N : List Str} {caps : List Nat} {pins : List (Addr × Obj)} {s : Shared} {σ : St} {H : Hp}
theorem lam_make2 {Q : Value → Shared → Prop} {E : Value → Shared → Prop} {params : Arguments} {body : Expr} {pos : Pos} {c P : Addr} (S : CmpScope X.env.scope X.N sc N 1 caps) (I : Inv X pins σ H s)
    (hdef : defaultsOf params X.env = ([], [])) (hcode : X.env.code = .ref c) (C : PySem.W.CodeHd X.base c P) (B : BtAt X.mg X.base) (hT : TabOk P pos (X.env.qual ++ "<lambda>") H)
    (h : ∀ (f c' : Addr) (oc : Obj) (u : HO) (pm ctv : Value) (cl : List (Str × Addr)) (H' : Hp) (s' : Shared), Inv X (pins ++ [(f, PySem.W.kla_obj "<lambda>" (X.env.qual ++ "<lambda>") params body sc cl pm c' ctv)]) σ H' s' → SameT P H H' → TabOk P pos (X.env.qual ++ "<lambda>") H' →
      H' c' = some (.frz oc u) → (∀ hh : Heap, hh.get? c' = some oc → hh.CodeRec (.ref c') (X.env.qual ++ "<lambda>")) → (∀ x c, cl.lookup x = some c → X.env.cells.lookup x = some c) → (∀ y ∈ sc.names, y.2 = .free → ∃ c, cl.lookup y.1 = some c) → Q (.ref f) s') :
    wpAny (model X.prog X.w) X.A (eval (.Lambda params body sc pos) X.env) Q E s := by
  obtain ⟨cl, hcl, hsub, hall⟩ := closure_ok I.ok (sc := sc) fun y hy hf => S.free y hy hf
  obtain ⟨bm, ob, b1, b2, b3, b4, b5, b6⟩ := B
  have hgs := I.ok.mod.glob.keeps I.bk
  have hbG : bm ≠ mainGlobals := fun q => by
    obtain ⟨o, es, ep, e, hd, _⟩ := I.ok.mod.glob
    rw [q, e] at b3; cases b3; rw [hd] at b6; cases b6
  have side : ∀ {ps : Array Value}, s.heap.get? P = some (PySem.W.tabObj ps) → mainGlobals ≠ P ∧ bm ≠ P := fun {ps} hPo => by
    constructor
    · intro q
      obtain ⟨o, es, ep, e, hd, _⟩ := hgs
      rw [q, hPo] at e; cases e; cases hd
    · intro q
      have e := I.bk _ _ b3
      rw [q, hPo] at e; cases e; cases b4
  rcases hT with hP | ⟨c', oc, u, hP, hfz, hrec⟩
  · have hPo : s.heap.get? P = some (PySem.W.tabObj #[]) := I.hok P _ hP
    obtain ⟨hgP, hbP⟩ := side hPo
    refine PySem.W.kla_eval hdef (PySem.W.kla_makeFunction (mg := X.mg) hcl I.ok.glob hgs hcode (C.keeps I.bk) hPo trivial rfl hgP ⟨bm, ob, b1, b2, hbG, hbP, I.bk _ _ b3, b4, b5, b6⟩ fun c' ctv h' tk hx hge hlt hrec htb => ?_)
    obtain ⟨c₂, oc, vs, t, e2, hoc, hd, hv⟩ := hrec
    cases e2
    have I1 := (I.grown (tk := tk) hP hx htb).kept (t' := tk) (h' := h'.push (PySem.W.kla_obj "<lambda>" (X.env.qual ++ "<lambda>") params body sc cl ((X.mg "__name__").getD .none) c' ctv)) fun b o e => Heap.get?_push_of_some _ e
    have sz1 : s.heap.objs.size ≤ h'.objs.size := Nat.le_trans hge (Nat.le_of_lt hlt)
    have nP : ∀ b, s.heap.objs.size ≤ b → b ≠ P := fun b hb z => by rw [z] at hb; exact absurd (Heap.lt_size hPo) (Nat.not_lt.mpr hb)
    have new : ∀ b, s.heap.objs.size ≤ b → (upd H P (.tbl (#[] ++ #[rawInt pos.line, rawInt pos.col, .ref c']))) b = none ∧ b ≠ X.env.locals ∧ b ∉ X.fs := fun b hb => by
      refine ⟨?_, Nat.ne_of_gt (Nat.lt_of_lt_of_le I.lt hb), I.nofs hb⟩
      rw [upd_ne (nP b hb)]
      exact I.hok.fresh hb
    obtain ⟨n1, n2, n3⟩ := new c' hge
    have hoc2 : (h'.push (PySem.W.kla_obj "<lambda>" (X.env.qual ++ "<lambda>") params body sc cl ((X.mg "__name__").getD .none) c' ctv)).get? c' = some oc := Heap.get?_push_of_some _ hoc
    have I2 := I1.track (d := c') (o := .frz oc (.own c')) n1 (Nat.le_trans I.sz hge) n2 (fun p hp z => absurd (Heap.lt_size (I.pin p hp).1) (Nat.not_lt.mpr (by rw [z]; exact hge))) (fun x cc hc z => by
      obtain ⟨v, o, ho, hdt⟩ := I.cell x cc hc
      exact absurd (Heap.lt_size ho) (Nat.not_lt.mpr (by rw [z]; exact hge))) ⟨hoc2, ⟨oc, hoc2⟩⟩
    have hfc : h'.objs.size ≠ c' := Nat.ne_of_gt hlt
    refine h h'.objs.size c' oc (.own c') ((X.mg "__name__").getD .none) ctv cl _ _ (I2.pins_of fun p hp => ?_) (fun b o nb e => ?_) (.inr ⟨c', oc, .own c', ?_, upd_same, fun hh e => ⟨c', oc, vs, t, rfl, e, hd, hv⟩⟩) upd_same (fun hh e => ⟨c', oc, vs, t, rfl, e, hd, hv⟩) hsub hall
    · rcases List.mem_append.mp hp with hp | hp
      · exact I2.pin p (List.mem_append_right _ hp)
      · rw [List.mem_singleton.mp hp]
        obtain ⟨m1, m2, m3⟩ := new h'.objs.size sz1
        exact ⟨Heap.get?_push_size _ rfl, by rw [upd_ne hfc]; exact m1, m2, m3, fun v z => by cases z⟩
    · rw [upd_ne (fun z => by rw [z, I.hok.fresh hge] at e; cases e), upd_ne nb]
      exact e
    · rw [upd_ne (Ne.symm (nP c' hge)), upd_same]
      rfl
  · have hPo : s.heap.get? P = some (PySem.W.tabObj #[rawInt pos.line, rawInt pos.col, .ref c']) := I.hok P _ hP
    obtain ⟨hgP, hbP⟩ := side hPo
    refine PySem.W.kla_eval hdef (PySem.W.kla_makeFunctionHit (mg := X.mg) (cv := .ref c') hcl I.ok.glob hgs hcode (C.keeps I.bk) hPo trivial (codeAmong_snoc [] trivial rfl) ⟨bm, ob, b1, b2, hbG, hbP, I.bk _ _ b3, b4, b5, b6⟩ fun ctv h' tk hk hsz => ?_)
    have I1 := I.kept (t' := tk) (h' := h'.push { cls := .type "function", data := .func (PySem.W.kla_fn "<lambda>" (X.env.qual ++ "<lambda>") params body sc cl ((X.mg "__name__").getD .none) (.ref c') ctv) }) fun b o e => Heap.get?_push_of_some _ (hk b o e)
    refine h h'.objs.size c' oc u ((X.mg "__name__").getD .none) ctv cl H _ (I1.pins_of fun p hp => ?_) (SameT.refl P H) (.inr ⟨c', oc, u, hP, hfz, hrec⟩) hfz hrec hsub hall
    rcases List.mem_append.mp hp with hp | hp
    · exact I1.pin p (List.mem_append_right _ hp)
    · rw [List.mem_singleton.mp hp]
      exact ⟨Heap.get?_push_size _ rfl, I.hok.fresh hsz, Nat.ne_of_gt (Nat.lt_of_lt_of_le I.lt hsz), I.nofs hsz, fun v z => by cases z⟩
end
section
variable {X : Cx} {pins : List (Addr × Obj)} {s : Shared} {σ : St} {H : Hp} {A : Around} {E : Value → Shared → Prop} {a kS : Addr}
/-- sorted(r, key=f), r a range, f a lambda whose code object is known -/
theorem sorted_lam2 {sc : Scope} {N : List Str} {caps : List Nat} {cl : List (Str × Addr)} {te : TE} {body : Expr} {params : Arguments} {name qual : Str} {pm ctv : Value} {c' f r : Addr} {oc : Obj} {u : HO} {x : Str} {k m : Nat} {t1 t2 t3 : Tok} {Q : VK}
    (S : CmpScope X.env.scope X.N sc N 1 caps) (hco : sc.isCoroutine = false) (hgen : sc.isGenerator = false) (hx : N[0]? = some x) (hxl : sc.names.lookup x = some .local)
    (hb : ∀ u, bindArgs (PySem.W.kla_fn name qual params body sc cl pm (.ref c') ctv) ⟨[u], []⟩ = pure [(x, u)]) (hr : Room (k + 3) X.A)
    (hsub : ∀ x c, cl.lookup x = some c → X.env.cells.lookup x = some c) (hall : ∀ y ∈ sc.names, y.2 = .free → ∃ c, cl.lookup y.1 = some c) (hcd : ∀ hh : Heap, hh.get? c' = some oc → hh.CodeRec (.ref c') qual) (hfz : H c' = some (.frz oc u))
    (hbody : ∀ s2 H2, Room k (lamCx X X.A.in1.in1 qual sc cl f (.ref c') N s2 H2).A → PE (lamCx X X.A.in1.in1 qual sc cl f (.ref c') N s2 H2) body te)
    (I : Inv X (pins ++ [(f, PySem.W.kla_obj name qual params body sc cl pm c' ctv)]) σ H s) (hrg : IsRange s.heap r 0 m 1 t1 t2 t3) (h64 : m < 64) (J : Nat → List Int → Hp → Prop) (h0 : J 0 [] H) (hsame : ∀ i ks H', J i ks H' → Same H H')
    (hs : ∀ i ks H', i < m → J i ks H' → te (lamSt caps σ (.int (0 + (i : Int)))) H' fun v H'' => ∃ k, v = .int k ∧ J (i + 1) (ks ++ [k]) H'')
    (hQ : ∀ (ks : List Int) (H' : Hp) (a : Addr) (qs : List (Int × Int)), ks.length = m → J m ks H' → H' a = none → qs.Perm (ks.zip (PySem.W.rangeKs 0 m)) → qs.Pairwise (fun p q => p.1 ≤ q.1) → Q (.ref a) (upd H' a (.lst ((qs.map Prod.snd).map V.int)))) :
    wpAny (model X.prog X.w) X.A (call (.builtin "sorted") [.ref r] [(Str.ofString "key", .ref f)]) (EP X pins σ Q) E s := by
  refine call_function_entry_kw kind_sorted plain_sorted entry_sorted (PyProof.Rows.ksk_s1 _ _) ?_
  unfold Builtin.«sorted»
  refine wpAny_bind (m := checkCount "sorted" 1 1 _) (wpAny_pure ?_)
  have hsz : Builtin.Range.rangeSize 0 (m : Int) 1 = (m : Int) := by rw [rangeSize_one]; split <;> omega
  refine wpAny_bind (collect_range hr.hd hrg (small_one (by omega) (by omega) (by omega) (by omega)) hsz (by omega) fun h1 tk vs keep1 hsz1 hvl hvi => ?_)
  have hv : IntsAre vs (PySem.W.rangeKs 0 m) := PySem.W.kll_ints vs 0 m hvl hvi
  refine wpAny_bind (wpAny_newList ?_ (by rw [sizeLine_eq]; omega))
  have ho : (h1.push { cls := .type "list", data := .seq vs.toArray }).get? h1.objs.size = some (seqObj "list" vs.toArray 0) := Heap.get?_push_size _ rfl
  refine wpAny_bind (wpAny_holding (wpAny_call_entry_kw slot_list_sort ⟨_, ho, rfl⟩ entry_list_sort ?body (PyProof.Rows.ksk_l1 _ _)))
  case body =>
    show wpAny (model X.prog X.w) X.A.in1.in1 (Builtin.«list.sort» ⟨[.ref h1.objs.size], [(Str.ofString "key", .ref f)]⟩) _ _ _
    rw [PyProof.Rows.ksk_t1]
    generalize hh2 : h1.push { cls := .type "list", data := .seq vs.toArray } = h2 at ho ⊢
    have keep2 : ∀ b o, h1.get? b = some o → h2.get? b = some o := fun b o e => hh2 ▸ Heap.get?_push_of_some _ e
    have sz2 : h2.objs.size = h1.objs.size + 1 := by rw [← hh2, Heap.size_push]
    have hs1 : s.heap.objs.size ≤ h1.objs.size := Nat.le_of_lt hsz1
    have s1 := Heap.SameBut.update h2 h1.objs.size (Obj.mapSeq fun _ => (#[] : Array Value))
    obtain ⟨e1, ho1⟩ : ∃ e1, (h2.update h1.objs.size (Obj.mapSeq fun _ => (#[] : Array Value))).get? h1.objs.size = some (seqObj "list" #[] e1) := ⟨_, get?_update_seq ho fun _ => #[]⟩
    unfold PyProof.Rows.ksk_tree
    refine wpAny_bind (listItems_at ho rfl ?_)
    refine wpAny_bind (listUpdate_at ho rfl ?_ (by rw [List.size_toArray, sizeLine_eq]; omega) (Nat.zero_le _))
    refine wpAny_bind (seqEpoch_at ho1 rfl ?_)
    refine wpAny_bind (wpAny_newTuple ?_ (by show vs.length ≤ _; rw [sizeLine_eq]; omega))
    refine wpAny_bind (wpAny_newList ?_ (Nat.zero_le _))
    refine wpAny_holding ?_
    generalize hh3 : h2.update h1.objs.size (Obj.mapSeq fun _ => (#[] : Array Value)) = h3 at s1 ho1 ⊢
    have keep3 : ∀ b o, s.heap.get? b = some o → h3.get? b = some o := fun b o e => (s1.2 b (Nat.ne_of_lt (Nat.lt_of_lt_of_le (Heap.lt_size e) hs1))).trans (keep2 b o (keep1 b o e))
    have sz3 : h3.objs.size = h1.objs.size + 1 := by rw [← hh3, Heap.size_update, sz2]
    generalize hh4 : h3.push { cls := .type "tuple", data := .seq vs.toArray.toList.toArray } = h4
    have keep4 : ∀ b o, h3.get? b = some o → h4.get? b = some o := fun b o e => hh4 ▸ Heap.get?_push_of_some _ e
    have sz4 : h4.objs.size = h1.objs.size + 2 := by rw [← hh4, Heap.size_push, sz3]
    have keep5 : ∀ b o, s.heap.get? b = some o → (h4.push { cls := .type "list", data := .seq ([] : List Value).toArray }).get? b = some o := fun b o e => Heap.get?_push_of_some _ (keep4 b o (keep3 b o e))
    have I5 := I.kept (t' := tk) keep5
    have fresh : ∀ b, s.heap.objs.size ≤ b → H b = none ∧ b ≠ X.env.locals ∧ b ∉ X.fs := fun b hb => ⟨I.hok.fresh hb, Nat.ne_of_gt (Nat.lt_of_lt_of_le I.lt hb), I.nofs hb⟩
    have I6 : Inv X (pins ++ sortPins [(f, PySem.W.kla_obj name qual params body sc cl pm c' ctv)] h4.objs.size h1.objs.size #[] 0 e1) σ H { s with heap := h4.push { cls := .type "list", data := .seq ([] : List Value).toArray }, toks := tk } := by
      refine I5.pins_of fun p hp => ?_
      rcases List.mem_append.mp hp with z | z
      · exact I5.pin p (List.mem_append_right _ (List.mem_append_left _ z))
      · rcases List.mem_append.mp z with z | z
        · exact I5.pin p (List.mem_append_right _ (List.mem_append_right _ z))
        · rcases List.mem_cons.mp z with rfl | z
          · obtain ⟨n1, n2, n3⟩ := fresh h4.objs.size (by omega)
            exact ⟨Heap.get?_push_size _ rfl, n1, n2, n3, fun v z => by cases z⟩
          · rw [List.mem_singleton.mp z]
            obtain ⟨n1, n2, n3⟩ := fresh h1.objs.size hs1
            exact ⟨Heap.get?_push_of_some _ (keep4 _ _ ho1), n1, n2, n3, fun v z => by cases z⟩
    have hfo : ∀ p ∈ X.pn ++ (pins ++ [(f, PySem.W.kla_obj name qual params body sc cl pm c' ctv)]), p.1 ≠ h4.objs.size ∧ p.1 ≠ h1.objs.size := fun p hp => by
      have z := Heap.lt_size (I.pin p hp).1
      exact ⟨Nat.ne_of_lt (Nat.lt_of_lt_of_le z (by omega)), Nat.ne_of_lt (Nat.lt_of_lt_of_le z hs1)⟩
    have hI0 := I.sz
    refine wpAny_mono (sort_rest (X := X) (pins := pins) (σ := σ) (a := h1.objs.size) (kS := h4.objs.size) (f := f) (fo := [(f, PySem.W.kla_obj name qual params body sc cl pm c' ctv)]) (vs := vs) (ns := PySem.W.rangeKs 0 m) (e1 := e1) (Q := Q) J hv (by omega) (Nat.ne_of_gt (show h1.objs.size < h4.objs.size by omega)) (Nat.le_trans hI0 (show s.heap.objs.size ≤ h4.objs.size by omega)) (Nat.le_trans hI0 hs1) hfo
      (fun i n u ks H' s' kA e hn hu I' hJ => ?_) I6 h0 (fun ks H' qs e1 e2 e3 e4 e5 => hQ ks H' _ qs (by rw [e1, PySem.W.rangeKs_length]) (by rw [PySem.W.rangeKs_length] at e2; exact e2) e3 e4 e5)) (fun fin s' ⟨e, H', I', q⟩ => ⟨_, e, ?_⟩) fun _ _ z => z
    · have hi : i < m := by rw [← hvl]; exact (List.getElem?_eq_some_iff.mp hu).1
      obtain ⟨tu, rfl⟩ := hvi i u hu
      have pf := I'.pin (f, PySem.W.kla_obj name qual params body sc cl pm c' ctv) (List.mem_append_right _ (List.mem_append_right _ (List.mem_append_left _ (.head _))))
      have pc := (I'.hok c' _ (hsame i ks H' hJ _ _ hfz)).1
      exact lam_call (k := k) (v := .int (0 + (i : Int))) S hco hgen hx hxl I'.ok.frames hr.in1.in1 I' pf.1 (hcd _ pc) (hb _) hsub hall ⟨tu, by rw [Int.mul_one]⟩ (hbody s' H' (hr.in1.in1.deeper _)) (hs i ks H' hi hJ)
    · exact wpAny_pure ⟨_, rfl, .ref h1.objs.size, H', I', rfl, q⟩
end
section
variable {X : Cx} {p pos : Pos} {e : Expr} {te : TE} {ta : TA}
/-- sorted(range(m), key=lambda ..), made whenever: P is the table of the def that makes the lambda -/
def tSortLam2 (P : Addr) (lpos : Pos) (qual : Str) (caps : List Nat) (te : TE) (ta : TA) : TE := fun σ H Q => ta σ H fun vs H1 => ∃ (r : Addr) (m : Nat), vs = [.ref r] ∧ H1 r = some (.rng 0 m) ∧ m < 64 ∧ TabOk P lpos qual H1 ∧ ∀ H2, SameT P H1 H2 → TabOk P lpos qual H2 → ∃ J : Nat → List Int → Hp → Prop,
  J 0 [] H2 ∧ (∀ i ks H', J i ks H' → Same H2 H') ∧ (∀ i ks H', i < m → J i ks H' → te (lamSt caps σ (.int (0 + (i : Int)))) H' fun v H'' => ∃ k, v = .int k ∧ J (i + 1) (ks ++ [k]) H'') ∧
  ∀ (ks : List Int) (H' : Hp) (a : Addr) (qs : List (Int × Int)), ks.length = m → J m ks H' → H' a = none → qs.Perm (ks.zip (PySem.W.rangeKs 0 m)) → qs.Pairwise (fun p q => p.1 ≤ q.1) → Q (.ref a) (upd H' a (.lst ((qs.map Prod.snd).map V.int)))
theorem pe_sortLam2 {sc : Scope} {N : List Str} {caps : List Nat} {body : Expr} {params : Arguments} {kpos lpos : Pos} {c P : Addr} {x : Str} {k : Nat} (hg : Gl X "sorted") (hm : X.mg "sorted" = none) (ha : PA X [e] ta)
    (S : CmpScope X.env.scope X.N sc N 1 caps) (hco : sc.isCoroutine = false) (hgen : sc.isGenerator = false) (hx : N[0]? = some x) (hxl : sc.names.lookup x = some .local) (hdef : defaultsOf params X.env = ([], [])) (hcode : X.env.code = .ref c)
    (C : PySem.W.CodeHd X.base c P) (B : BtAt X.mg X.base) (hb : ∀ cl pm c' ctv u, bindArgs (PySem.W.kla_fn "<lambda>" (X.env.qual ++ "<lambda>") params body sc cl pm (.ref c') ctv) ⟨[u], []⟩ = pure [(x, u)]) (hr : Room (k + 3) X.A)
    (hbody : ∀ cl f cd s2 H2, Room k (lamCx X X.A.in1.in1 (X.env.qual ++ "<lambda>") sc cl f cd N s2 H2).A → PE (lamCx X X.A.in1.in1 (X.env.qual ++ "<lambda>") sc cl f cd N s2 H2) body te)
    (he : starEach [e] X.env = [(false, eval e X.env)] := by rfl) :
    PE X (.Call (.Name "sorted" p) [e] [⟨some "key", .Lambda params body sc lpos, kpos⟩] pos) (tSortLam2 P lpos (X.env.qual ++ "<lambda>") caps te ta) := by
  intro pins s σ H Q I h
  refine wpAny_Call_Name_kw (ld_blt I hg hm boot_sorted ?_ (by decide) (by decide))
  refine callWith_kw (thn (ha pos pins s σ H _ I h) fun us s1 ⟨vs, H1, I1, r1, q1⟩ => ?_) (by rw [he]; rfl) (by rw [he]; rfl) rfl rfl
  obtain ⟨r, m, rfl, hrg, h64, hT, q⟩ := q1
  obtain ⟨u, rfl, ru⟩ := vals1 r1
  cases ru
  show wpAny _ _ (evalAll [do let v ← eval (.Lambda params body sc lpos) X.env; standAt pos; pure v]) _ _ s1
  refine wpAny_evalAll_cons (wpAny_bind (lam_make2 S I1 hdef hcode C B hT fun f c' oc u pm ctv cl H2 s2 I2 sT hT2 hfz hcd hsub hall => wpAny_bind (wpAny_standAt (wpAny_pure ?_))))
  refine wpAny_evalAll_nil ?_
  obtain ⟨J, j0, jm, js, jq⟩ := q H2 sT hT2
  obtain ⟨ps, hP⟩ := hT.at
  have hrP : r ≠ P := fun z => by rw [z, hP] at hrg; cases hrg
  obtain ⟨t1, t2, t3, hh⟩ := I2.hok r (.rng 0 m) (sT _ _ hrP hrg)
  exact sorted_lam2 (k := k) S hco hgen hx hxl (fun u => hb _ _ _ _ u) hr hsub hall hcd hfz (fun s3 H3 hr3 => hbody _ _ _ s3 H3 hr3) I2 hh h64 J j0 jm js jq
end
end L2
set_option Elab.async false
set_option linter.all false
set_option maxRecDepth 100000
set_option maxHeartbeats 4000000
/-! min of a list whose items are compared by what the heap holds: own work -/
namespace L2
open PySem PySem.Spec PyProof.Rows
section
variable {prog : Program} {w : World} {A : Around} {R : Result → Shared → Prop} {I S : Addr} {fp wr : List Addr} {n : Nat} {P : Nat → Value → Prop} {St : Nat → Heap → Prop} {bt : Nat → Nat → Bool} {Kp : Heap → Prop}
/-- how two items are compared, as long as Kp holds -/
def CmpAt (prog : Program) (w : World) (A : Around) (P : Nat → Value → Prop) (bt : Nat → Nat → Bool) (Kp : Heap → Prop) : Prop :=
  ∀ i j vi vj (s : Shared) (Q : Value → Shared → Prop) (E : Value → Shared → Prop), i ≠ j → Kp s.heap → P i vi → P j vj → Q (.bool (bt i j)) s → wpAny (model prog w) A (richCompare .Lt vi vj) Q E s
theorem argBest_le (bt : Nat → Nat → Bool) : ∀ j, argBest bt j ≤ j
  | 0 => Nat.le_refl _
  | j + 1 => by
    have := argBest_le bt j
    show (if bt (j + 1) (argBest bt j) then j + 1 else argBest bt j) ≤ _
    split <;> omega
theorem min_turns (W : Walks prog w A.in1 I fp wr n P St) (hcmp : CmpAt prog w A.in1 P bt Kp) (hKp : ∀ h h', Kp h → (∀ b o, b ∉ wr → b ≠ S → h.get? b = some o → h'.get? b = some o) → Kp h') (hSf : S ∉ fp) :
    ∀ (k j : Nat) (s : Shared) (vb : Value) (c : Nat), n - (j + 1) = k → j + 1 ≤ n → St (j + 1) s.heap → Kp s.heap → P (argBest bt j) vb →
    s.heap.get? S = some { cls := .type "list", dict := none, data := .seq #[vb, vb] c, slots := #[] } →
    (∀ v h' tk, P (argBest bt (n - 1)) v → (∀ b o, b ∉ wr → b ≠ S → s.heap.get? b = some o → h'.get? b = some o) → R (.ok (.ret v)) { s with heap := h', toks := tk }) →
    codeAny (model prog w) A (.builtin "min.loop" ⟨[.ref I, .none, .ref S], []⟩) R s := by
  have hSw : S ∉ wr := fun z => hSf (W.sub _ z)
  have hname : (toString "min" ++ toString ".loop" : String) = "min.loop" := by decide
  intro k
  induction k with
  | zero =>
    intro j s vb c hk hj hst hkp hPb hS hR
    have hin : j + 1 = n := by omega
    refine codeAny_builtin PySem.F.entry_min_loop ?_
    rw [Around.under_plainId PySem.F.plain_min_loop _]
    show wpAny _ A.in1 (seqItems? (.ref S) >>= _) _ _ s
    refine wpAny_bind (wpAny_seqItems hS rfl ?_)
    show wpAny _ A.in1 (tryCatch (pyNext (.ref I)) _ >>= _) _ _ s
    refine wpAny_bind (wpAny_tryCatch (W.done s _ _ (hin ▸ hst) fun h' tk hk' => ?_))
    have hS' := hk' S _ hSw hS
    show wpAny _ A.in1 (updateSeq S (fun _ => #[]) >>= _) _ _ _
    refine wpAny_bind (wpAny_updateSeq hS' rfl (wpAny_bind (wpAny_letGo (wpAny_pure ?_))))
    exact hR vb _ tk (by rw [← hin]; exact hPb) fun b o hbw hbS e => (Heap.get?_update_other _ _ (Ne.symm hbS)).trans (hk' b o hbw e)
  | succ k ih =>
    intro j s vb c hk hj hst hkp hPb hS hR
    have hlt : j + 1 < n := by omega
    refine codeAny_builtin PySem.F.entry_min_loop ?_
    rw [Around.under_plainId PySem.F.plain_min_loop _]
    show wpAny _ A.in1 (seqItems? (.ref S) >>= _) _ _ s
    refine wpAny_bind (wpAny_seqItems hS rfl ?_)
    show wpAny _ A.in1 (tryCatch (pyNext (.ref I)) _ >>= _) _ _ s
    refine wpAny_bind (wpAny_tryCatch (W.item (j + 1) s _ _ hlt hst fun v h' tk hP hst' hk' => ?_))
    have hS' := hk' S _ hSw hS
    have hkp' : Kp h' := hKp _ _ hkp fun b o hb _ e => hk' b o hb e
    show wpAny _ A.in1 (tryCatch (holding [v, v] (richCompare .Lt v vb >>= _)) _ >>= _) _ _ _
    refine wpAny_bind (wpAny_tryCatch (wpAny_holding (wpAny_bind (hcmp (j + 1) (argBest bt j) v vb _ _ _ (by have := argBest_le bt j; omega) hkp' hP hPb ?_))))
    refine wpAny_bind (wpAny_holding (wpAny_truthy_bool ?_))
    refine wpAny_bind (wpAny_letGo (wpAny_pure ?_))
    cases hb : bt (j + 1) (argBest bt j) with
    | true =>
      simp only [if_true]
      refine wpAny_bind (wpAny_updateSeq hS' rfl (wpAny_bind (wpAny_letGo ?_)))
      rw [hname]
      refine wpAny_pure ⟨plainId_quiet PySem.F.plain_min_loop _, ih (j + 1) _ v _ (by omega) hlt (W.frame _ _ _ hst' fun b hbf o e => ?_) (hKp _ _ hkp' fun b o _ hbS e => (Heap.get?_update_other _ _ (Ne.symm hbS)).trans e) (by simp only [argBest, hb, if_true]; exact hP) (Heap.get?_update_self _ hS' rfl)
        fun v' h'' tk'' hP' hk'' => ?_⟩
      · exact (Heap.get?_update_other _ _ (fun z : S = b => hSf (by rw [z]; exact hbf))).trans e
      · exact hR v' h'' tk'' hP' fun b o hbw hbS e => hk'' b o hbw hbS ((Heap.get?_update_other _ _ (Ne.symm hbS)).trans (hk' b o hbw e))
    | false =>
      simp only [Bool.false_eq_true, if_false]
      refine wpAny_bind (wpAny_letGo ?_)
      rw [hname]
      refine wpAny_pure ⟨plainId_quiet PySem.F.plain_min_loop _, ih (j + 1) _ vb c (by omega) hlt hst' hkp' (by simp only [argBest, hb, Bool.false_eq_true, if_false]; exact hPb) hS' fun v' h'' tk'' hP' hk'' => ?_⟩
      exact hR v' h'' tk'' hP' fun b o hbw hbS e => hk'' b o hbw hbS (hk' b o hbw e)
theorem min_start (W : Walks prog w A.in1 I fp wr n P St) (hcmp : CmpAt prog w A.in1 P bt Kp) (hKp : ∀ h h', Kp h → (∀ b o, b ∉ wr → b ≠ S → h.get? b = some o → h'.get? b = some o) → Kp h') (hSf : S ∉ fp) (hn : 0 < n) {s : Shared} {c : Nat} (hst : St 0 s.heap) (hkp : Kp s.heap)
    (hS : s.heap.get? S = some { cls := .type "list", dict := none, data := .seq #[] c, slots := #[] })
    (hR : ∀ v h' tk, P (argBest bt (n - 1)) v → (∀ b o, b ∉ wr → b ≠ S → s.heap.get? b = some o → h'.get? b = some o) → R (.ok (.ret v)) { s with heap := h', toks := tk }) :
    codeAny (model prog w) A (.builtin "min.loop" ⟨[.ref I, .none, .ref S], []⟩) R s := by
  have hSw : S ∉ wr := fun z => hSf (W.sub _ z)
  have hname : (toString "min" ++ toString ".loop" : String) = "min.loop" := by decide
  refine codeAny_builtin PySem.F.entry_min_loop ?_
  rw [Around.under_plainId PySem.F.plain_min_loop _]
  show wpAny _ A.in1 (seqItems? (.ref S) >>= _) _ _ s
  refine wpAny_bind (wpAny_seqItems hS rfl ?_)
  show wpAny _ A.in1 (tryCatch (pyNext (.ref I)) _ >>= _) _ _ s
  refine wpAny_bind (wpAny_tryCatch (W.item 0 s _ _ hn hst fun v h' tk hP hst' hk' => ?_))
  have hS' := hk' S _ hSw hS
  have hkp' : Kp h' := hKp _ _ hkp fun b o hb _ e => hk' b o hb e
  show wpAny _ A.in1 (updateSeq S (fun _ => #[v, v]) >>= _) _ _ _
  refine wpAny_bind (wpAny_updateSeq hS' rfl ?_)
  rw [hname]
  refine wpAny_pure ⟨plainId_quiet PySem.F.plain_min_loop _, min_turns (R := R) W hcmp hKp hSf _ 0 _ v _ rfl hn (W.frame _ _ _ hst' fun b hbf o e => ?_) (hKp _ _ hkp' fun b o _ hbS e => (Heap.get?_update_other _ _ (Ne.symm hbS)).trans e) hP (Heap.get?_update_self _ hS' rfl) fun v' h'' tk'' hP' hk'' => ?_⟩
  · exact (Heap.get?_update_other _ _ (fun z : S = b => hSf (by rw [z]; exact hbf))).trans e
  · exact hR v' h'' tk'' hP' fun b o hbw hbS e => hk'' b o hbw hbS ((Heap.get?_update_other _ _ (Ne.symm hbS)).trans (hk' b o hbw e))
end
section
variable {prog : Program} {w : World} {A : Around} {E : Value → Shared → Prop} {s : Shared}
theorem call_minAt {x : Value} {Q : Value → Shared → Prop} (Kp : Heap → Prop)
    (h : wpAny (model prog w) A.in1 (pyIter x) (fun it s₂ => ∃ I fp wr n P St bt, it = .ref I ∧ Walks prog w A.in1 I fp wr n P St ∧ St 0 s₂.heap ∧ (∀ b ∈ fp, b < s₂.heap.objs.size) ∧ 0 < n ∧ CmpAt prog w A.in1 P bt Kp ∧ Kp s₂.heap ∧
      (∀ S h h', s₂.heap.objs.size ≤ S → Kp h → (∀ b o, b ∉ wr → b ≠ S → h.get? b = some o → h'.get? b = some o) → Kp h') ∧
      ∀ v h' tk, P (argBest bt (n - 1)) v → (∀ b o, b ∉ wr → s₂.heap.get? b = some o → h'.get? b = some o) → Q v { s₂ with heap := h', toks := tk }) E s) :
    wpAny (model prog w) A (call (.builtin "min") [x]) Q E s := by
  have hname : (toString "min" ++ toString ".loop" : String) = "min.loop" := by decide
  refine call_function_tree PySem.F.kind_min PySem.F.plain_min PySem.F.entry_min (PySem.F.args_min1 _) ?_
  show wpAny _ A.in1 (Builtin.Builtins.bindParams "min" ["key", "default"] 0 ⟨[], []⟩ >>= _) _ _ s
  refine wpAny_bind (wpAny_of_eq (show Builtin.Builtins.bindParams "min" ["key", "default"] 0 ⟨[], []⟩ = pure [none, none] from rfl) ?_)
  refine wpAny_bind (wpAny_pure ?_)
  refine wpAny_bind (wpAny_mono h (fun it s₂ h₂ => ?_) fun _ _ e => e)
  obtain ⟨I, fp, wr, n, P, St, bt, rfl, W, hst, hfp, hn, hcmp, hkp, hKp, hQ⟩ := h₂
  refine wpAny_bind (wpAny_newObj_type ?_)
  have hSf : s₂.heap.objs.size ∉ fp := fun hm => Nat.lt_irrefl _ (hfp _ hm)
  rw [hname]
  refine wpAny_pure ⟨plainId_quiet PySem.F.plain_min_loop _, min_start (S := s₂.heap.objs.size) W hcmp (fun h h' => hKp _ h h' (Nat.le_refl _)) hSf hn (W.frame _ _ _ hst fun b _ o e => Heap.get?_push_of_some _ e) (hKp s₂.heap.objs.size _ _ (Nat.le_refl _) hkp fun b o _ _ e => Heap.get?_push_of_some _ e) (Heap.get?_push_size _ rfl) fun v h' tk hP hk => ?_⟩
  exact hQ v h' tk hP fun b o hbw e => hk b o hbw (Nat.ne_of_lt (Heap.lt_size e)) (Heap.get?_push_of_some _ e)
end
end L2
set_option Elab.async false
set_option linter.all false
set_option maxRecDepth 100000
set_option maxHeartbeats 4000000
namespace HT
open PySem PyProof.Rows
section
open PySem.SeqAt
open PySem.AutoSeq1 (wpAny_loadPart')
open PySem.MeetsSeq PySem.MeetsSeq2 PySem.MeetsSeq3
/-- l < b of lists whose first items are ints that differ: one turn -/
theorem lt_turn (l b : Addr) (items items2 : Array Value) (n n2 : Nat) (dd dd2 : Option Addr) (sl sl2 : Array (Option Value)) (a c : Int) (t u : Tok) (h1 : items[0]? = some (.int a t)) (h2 : items2[0]? = some (.int c u)) (hne : a ≠ c) :
    Meets (Builtin.«list.__eq__.loop» ⟨[.ref l, .ref b, rawInt ((0 : Nat) : Int), rawInt 0], []⟩)
      (fun A R s => s.heap.get? l = some { cls := .type "list", dict := dd, data := .seq items n, slots := sl } ∧ s.heap.get? b = some { cls := .type "list", dict := dd2, data := .seq items2 n2, slots := sl2 } ∧
        R (.ok (.ret (.bool (decide (a < c))))) s) := by
  intro prog w A R s h
  obtain ⟨hp, g, d, tk, os⟩ := s; obtain ⟨hl, hb, h⟩ := h
  wp_walk using wpAny_loadPart' hl, wpAny_loadPart' hb
  have hi1 : items[((0 : Nat) : Int).toNat]? = some (.int a t) := h1
  have hi2 : items2[((0 : Nat) : Int).toNat]? = some (.int c u) := h2
  rw [hi1, hi2]
  obtain ⟨e, he, hiff⟩ := eqAt_int A.in1 ⟨hp, g, d, tk, os⟩ a t c u
  refine wpAny_bind (he prog w _ _ ?_)
  cases e with
  | true => exact absurd (hiff.mp rfl) hne
  | false =>
    have hri := rcLt_int A.in1 ⟨hp, g, d, tk, os⟩ a t c u prog w
    wp_walk using wpAny_loadPart' hl, wpAny_loadPart' hb
    rw [hi1, hi2]
    wp_walk using hri
    exact h
theorem list_lt_heads (l b : Addr) (items items2 : Array Value) (n n2 : Nat) (dd dd2 : Option Addr) (sl sl2 : Array (Option Value)) (a c : Int) (t u : Tok) (h1 : items[0]? = some (.int a t)) (h2 : items2[0]? = some (.int c u)) (hne : a ≠ c) :
    Meets (Builtin.«list.__lt__» ⟨[.ref l, .ref b], []⟩)
      (fun A R s => s.heap.get? l = some { cls := .type "list", dict := dd, data := .seq items n, slots := sl } ∧ s.heap.get? b = some { cls := .type "list", dict := dd2, data := .seq items2 n2, slots := sl2 } ∧
        R (.ok (.ret (.bool (decide (a < c))))) s) := by
  intro prog w A R s h
  obtain ⟨hp, g, d, tk, os⟩ := s; obtain ⟨hl, hb, h⟩ := h
  have f3 := AutoSeq1.sub_list_list
  wp_walk using wpAny_loadPart' hl, wpAny_loadPart' hb
  exact ⟨plainId_quiet plain_eq_loop _, codeAny_builtin entry_eq_loop (by
    rw [Around.under_plainId plain_eq_loop _]
    exact lt_turn l b items items2 n n2 dd dd2 sl sl2 a c t u h1 h2 hne prog w A R _ ⟨hl, hb, h⟩)⟩
theorem rcLt_lists {A : Around} {s : Shared} {l b : Addr} {o o2 : Obj} {items items2 : Array Value} {n n2 : Nat} {a c : Int} {t u : Tok} (ho : s.heap.get? l = some o) (hc : o.cls = .type "list") (hd : o.data = .seq items n) (ho2 : s.heap.get? b = some o2) (hc2 : o2.cls = .type "list") (hd2 : o2.data = .seq items2 n2)
    (h1 : items[0]? = some (.int a t)) (h2 : items2[0]? = some (.int c u)) (hne : a ≠ c) (hu : A.units < cLine) (prog : Program) (w : World) (E : Value → Shared → Prop) (Q : Value → Shared → Prop) (h : Q (.bool (decide (a < c))) s) :
    wpAny (model prog w) A (richCompare .Lt (.ref l) (.ref b)) Q E s := by
  obtain ⟨cls, dd, data, sl⟩ := o
  obtain ⟨cls2, dd2, data2, sl2⟩ := o2
  simp only at hc hd hc2 hd2
  subst hc hd hc2 hd2
  exact richCompare_meets_room (op := .Lt) ⟨_, ho, rfl⟩ ⟨_, ho2, rfl⟩ PySem.F.slot_list_lt PySem.F.entry_list_lt (PySem.F.args_list_lt_2 _ _) (list_lt_heads l b items items2 n n2 dd dd2 sl sl2 a c t u h1 h2 hne)
    ⟨ho, ho2, show Value.bool (decide (a < c)) ≠ Value.notImplemented ∧ Q (.bool (decide (a < c))) s from ⟨(fun x => nomatch x), h⟩⟩ hu
/-- (k, l) < (k2, l2): ints, then lists whose heads differ -/
theorem tuple_lt_kl (l b x y : Addr) (n n2 : Nat) (dd dd2 : Option Addr) (sl sl2 : Array (Option Value)) (k k2 a c : Int) (tk1 tk2 : Tok) (lt eq : Bool) :
    Meets (Builtin.«tuple.__lt__» ⟨[.ref l, .ref b], []⟩)
      (fun A R s => s.heap.get? l = some { cls := .type "tuple", dict := dd, data := .seq #[.int k tk1, .ref x] n, slots := sl } ∧ s.heap.get? b = some { cls := .type "tuple", dict := dd2, data := .seq #[.int k2 tk2, .ref y] n2, slots := sl2 } ∧
        EqAt A.in1 s (.ref x) (.ref y) false ∧ (∀ (prog : Program) (w : World) (E : Value → Shared → Prop) (Q : Value → Shared → Prop), Q (.bool (decide (a < c))) s → wpAny (model prog w) A.in1 (richCompare .Lt (.ref x) (.ref y)) Q E s) ∧
        R (.ok (.ret (.bool (if k = k2 then decide (a < c) else decide (k < k2))))) s) := by
  intro prog w A R s h
  obtain ⟨hp, g, d, tk, os⟩ := s; obtain ⟨hl, hb, he2, hr2, h⟩ := h
  have f2 := AutoSeq1.sub_tuple_tuple
  obtain ⟨e, he, hiff⟩ := eqAt_int A.in1 ⟨hp, g, d, tk, os⟩ k tk1 k2 tk2
  have hr1 := rcLt_int A.in1 ⟨hp, g, d, tk, os⟩ k tk1 k2 tk2 prog w
  have hr2' := hr2 prog w
  wp_walk using wpAny_loadPart' hl, wpAny_loadPart' hb, wpAny_forIn_list _ (fun rest b s' => b.1 = none ∧ s' = ⟨hp, g, d, tk, os⟩ ∧ (rest = [(.int k tk1, .int k2 tk2), (.ref x, .ref y)] ∨ (rest = [(.ref x, .ref y)] ∧ k = k2))) _
  case turn =>
    rintro ⟨y0, x0⟩ rest b s' ⟨hb', rfl, hz⟩
    rcases hz with hz | ⟨hz, hk⟩
    · injection hz with hyx hrest
      injection hyx with hy hx
      subst hy hx
      refine wpAny_bind (he prog w _ _ ?_)
      cases e with
      | true =>
        wp_walk
        exact ⟨rfl, rfl, .inr ⟨hrest, hiff.mp rfl⟩⟩
      | false =>
        rw [if_neg (fun q => absurd (hiff.mpr q) Bool.false_ne_true)] at h
        wp_walk using hr1
        simpa using h
    · injection hz with hyx hrest
      injection hyx with hy hx
      subst hy hx
      refine wpAny_bind (he2 prog w _ _ ?_)
      rw [if_pos hk] at h
      wp_walk using hr2'
      simpa using h
  case fin =>
    rintro ⟨b1, b2⟩ s' ⟨hb', rfl, hz⟩
    rcases hz with hz | ⟨hz, _⟩ <;> cases hz
  case h =>
    exact ⟨rfl, rfl, .inl rfl⟩
end
end HT
set_option Elab.async false
set_option linter.all false
set_option maxRecDepth 100000
set_option maxHeartbeats 4000000
namespace L2
open PySem PySem.Spec PyProof.Rows
/-- a pair (k, [h] + r): its place, the list's place -/
structure Ent where
  t : Addr
  k : Int
  a : Addr
  h : Int
  r : List Int
def Ent.ok (H : Hp) (e : Ent) : Prop := H e.t = some (.tup [.int e.k, .ref e.a]) ∧ H e.a = some (.lst ((e.h :: e.r).map V.int))
def Ent.le (e f : Ent) : Prop := e.k < f.k ∨ (e.k = f.k ∧ e.h ≤ f.h)
/-- min of a list of such pairs, no two with the same head -/
def rMinKL : List V → Hp → VK → Prop := fun xs H Q => ∃ (p : Addr) (es : List Ent), xs = [.ref p] ∧ H p = some (.lst (es.map fun e => V.ref e.t)) ∧ es ≠ [] ∧ (∀ e ∈ es, e.ok H) ∧ (es.map Ent.h).Nodup ∧ ∀ e ∈ es, (∀ f ∈ es, e.le f) → Q (.ref e.t) H
theorem heads_ne {xs ys : List PyData} {a c : Int} (h : a ≠ c) : PyData.eqv (.list (.int a :: xs)) (.list (.int c :: ys)) = false := by
  rw [PyData.eqv, PyData.eqvAll]
  have : PyData.eqv (.int a) (.int c) = false := by simp [PyData.eqv, h]
  rw [this]
  rfl
theorem best_bt {bt : Nat → Nat → Bool} (rr : ∀ a, bt a a = false) (tr : ∀ a b c, bt a b = false → bt c b = true → bt a c = false) : ∀ j, argBest bt j ≤ j ∧ ∀ i, i ≤ j → bt i (argBest bt j) = false
  | 0 => ⟨Nat.le_refl _, fun i hi => by
      have : i = 0 := by omega
      subst this
      exact rr _⟩
  | j + 1 => by
    obtain ⟨h1, h2⟩ := best_bt rr tr j
    unfold argBest
    by_cases c : bt (j + 1) (argBest bt j) = true
    · rw [if_pos c]
      refine ⟨Nat.le_refl _, fun i hi => ?_⟩
      by_cases e : i = j + 1
      · subst e; exact rr _
      · exact tr _ _ _ (h2 i (by omega)) c
    · rw [if_neg c]
      refine ⟨by omega, fun i hi => ?_⟩
      by_cases e : i = j + 1
      · subst e; exact Bool.eq_false_iff.mpr c
      · exact h2 i (by omega)
def Ent.lt (e f : Ent) : Bool := if e.k = f.k then decide (e.h < f.h) else decide (e.k < f.k)
section
variable {X : Cx}
theorem call_minKL (hc : X.calm = true) (hu : X.A.units + 64 < cLine) : CallR X (.builtin "min") rMinKL := by
  intro pins s σ H xs us Q I r h
  obtain ⟨p, es, rfl, hp, hne, hes, hnd, q⟩ := h
  obtain ⟨u, rfl, ru⟩ := vals1 r
  cases ru
  obtain ⟨its, rv, hl, hlt, hst⟩ := list_walk I hc (SqL.of hp)
  have hlen : its.toArray.size = es.length := by
    have := rv.length
    rw [List.length_map] at this
    simp [this]
  have hpos : 0 < es.length := List.length_pos_iff.mpr hne
  have at_ : ∀ {i : Nat} {v : Value}, its.toArray[i]? = some v → ∃ e, es[i]? = some e ∧ v = .ref e.t := by
    intro i v hv
    have hv' : its[i]? = some v := by simpa using hv
    have hi : i < es.length := by rw [← hlen]; exact (Array.getElem?_eq_some_iff.mp hv).1
    obtain ⟨w', hw1, hw2⟩ := rv.get (show (es.map fun e => V.ref e.t)[i]? = some (.ref es[i].t) by rw [List.getElem?_map, List.getElem?_eq_getElem hi]; rfl)
    rw [hv'] at hw1
    cases hw1
    cases hw2
    exact ⟨es[i], List.getElem?_eq_getElem hi, rfl⟩
  -- what is read of an item, in any later heap
  have look : ∀ e ∈ es, ∃ (o o2 : Obj) (tk : Tok) (n n2 : Nat) (th : Tok) (ws : List Value) (as : List Addr), s.heap.get? e.t = some o ∧ o.cls = .type "tuple" ∧ o.data = .seq #[.int e.k tk, .ref e.a] n ∧
      s.heap.get? e.a = some o2 ∧ o2.cls = .type "list" ∧ o2.data = .seq (List.toArray (.int e.h th :: ws)) n2 ∧ Reads s.heap (.ref e.a) (.list ((e.h :: e.r).map PyData.int)) as := by
    intro e he
    obtain ⟨h1, h2⟩ := hes e he
    obtain ⟨its1, r1, ⟨o, ho, hcl, n, hd⟩, _⟩ := I.tuple (SqT.of h1)
    cases r1 with
    | cons a1 r1 =>
    cases r1 with
    | cons a2 r1 =>
    cases r1
    obtain ⟨tk, rfl⟩ := a1
    cases a2
    obtain ⟨_, its2, n2, r2, _, ho2⟩ := I.lstM h2
    obtain ⟨as, R⟩ := Den.reads I (.lst h2 (ints_den _)) (u := .ref e.a) rfl
    rw [List.map_cons] at r2
    cases r2 with
    | cons b1 b2 =>
    obtain ⟨th, rfl⟩ := b1
    exact ⟨o, _, tk, n, n2, th, _, as, ho, hcl, hd, ho2, rfl, rfl, R⟩
  have inj : ∀ {i j : Nat} {e f : Ent}, i ≠ j → es[i]? = some e → es[j]? = some f → e.h ≠ f.h := by
    intro i j e f hij hi hj z
    obtain ⟨h1, h2⟩ := List.getElem?_eq_some_iff.mp hi
    obtain ⟨h3, h4⟩ := List.getElem?_eq_some_iff.mp hj
    have key := List.pairwise_iff_getElem.mp hnd
    rcases Nat.lt_or_gt_of_ne hij with c | c
    · exact key i j (by rw [List.length_map]; exact h1) (by rw [List.length_map]; exact h3) c (by rw [List.getElem_map, List.getElem_map, h2, h4]; exact z)
    · exact key j i (by rw [List.length_map]; exact h3) (by rw [List.length_map]; exact h1) c (by rw [List.getElem_map, List.getElem_map, h2, h4]; exact z.symm)
  have d0 : Ent := ⟨0, 0, 0, 0, []⟩
  have gd : ∀ {i : Nat} {e : Ent}, es[i]? = some e → es.getD i d0 = e := fun {i e} h => by simp [List.getD, h]
  refine call_minAt (fun h => ∀ b o, s.heap.get? b = some o → h.get? b = some o) (wpAny_pyIter_list hl ⟨_, _, _, _, _, _, fun i j => (es.getD i d0).lt (es.getD j d0), rfl,
    Walks.list (A := X.A.in1) (I.ok.hd hc) _ p (Nat.ne_of_lt hlt) its.toArray, hst rfl, walk_fp hlt, by rw [hlen]; exact hpos, ?_, ?_, ?_, fun v h' tk hP hk => ?_⟩)
  · intro i j vi vj s' Q' E' hij hkp hPi hPj hq
    obtain ⟨e, hei, rfl⟩ := at_ hPi
    obtain ⟨f, hfj, rfl⟩ := at_ hPj
    have hq : Q' (.bool ((es.getD i d0).lt (es.getD j d0))) s' := hq
    rw [gd hei, gd hfj] at hq
    obtain ⟨⟨cl, dd, dt, sl⟩, o2, tk, n, n2, th, ws, as, a1, a2, a3, a4, a5, a6, a7⟩ := look e (List.mem_of_getElem? hei)
    obtain ⟨⟨cl', dd', dt', sl'⟩, o2', tk', n', n2', th', ws', as', b1, b2, b3, b4, b5, b6, b7⟩ := look f (List.mem_of_getElem? hfj)
    simp only at a2 a3 b2 b3
    subst a2 a3 b2 b3
    have hne' := inj hij hei hfj
    refine richCompare_meets_room (op := .Lt) ⟨_, hkp _ _ a1, rfl⟩ ⟨_, hkp _ _ b1, rfl⟩ PySem.F.slot_tuple_lt PySem.F.entry_tuple_lt (PySem.F.args_tuple_lt_2 _ _) (HT.tuple_lt_kl e.t f.t e.a f.a n n' dd dd' sl sl' e.k f.k e.h f.h tk tk' true true)
      ⟨hkp _ _ a1, hkp _ _ b1, ?_, fun prog w E Q hQ => ?_, (fun x => nomatch x), hq⟩ (by show X.A.units + 1 < _; omega)
    · have z := SeqAt.eqAt_reads _ _ X.A.in1.in1 s' _ _ _ _ (Reads.keeps hkp a7) (Reads.keeps hkp b7) (by rw [PyData.canLay0, can_ints]) (by rw [PyData.canLay0, can_ints]) (by
        rw [PyData.depth, PyData.depth, depth_ints, depth_ints]
        show X.A.units + 1 + 1 + _ < _
        omega)
      rw [List.map_cons, List.map_cons, heads_ne hne'] at z
      exact z
    · exact HT.rcLt_lists (hkp _ _ a4) a5 a6 (hkp _ _ b4) b5 b6 (show (List.toArray (Value.int e.h th :: ws))[0]? = some (.int e.h th) by simp) (show (List.toArray (Value.int f.h th' :: ws'))[0]? = some (.int f.h th') by simp) hne' (by show X.A.units + 1 + 1 < _; omega) prog w E Q hQ
  · intro b o e
    exact Heap.get?_push_of_some _ e
  · intro S h h' hS hkp hk b o e
    refine hk b o ?_ ?_ (hkp b o e)
    · intro z
      rw [List.mem_singleton.mp z] at e
      exact absurd (Heap.lt_size e) (Nat.lt_irrefl _)
    · intro z
      rw [z] at e
      have h3 := Heap.lt_size e
      rw [Heap.size_push] at hS
      exact absurd (Nat.lt_of_lt_of_le h3 (Nat.le_of_succ_le hS)) (Nat.lt_irrefl _)
  · obtain ⟨e, he, rfl⟩ := at_ hP
    have hb := best_bt (bt := fun i j => (es.getD i d0).lt (es.getD j d0)) (fun a => by simp [Ent.lt]) (fun a b c h1 h2 => by
      simp only [Ent.lt] at h1 h2 ⊢
      split at h1 <;> split at h2 <;> simp only [decide_eq_false_iff_not, decide_eq_true_eq] at h1 h2 <;> split <;> simp only [decide_eq_false_iff_not] <;> omega) (its.toArray.size - 1)
    refine ⟨.ref e.t, H, I.kept (walk_old hk), rfl, q e (List.mem_of_getElem? he) fun f hf => ?_⟩
    obtain ⟨i, hi⟩ := List.mem_iff_getElem?.mp hf
    have hil := (List.getElem?_eq_some_iff.mp hi).1
    have z := hb.2 i (by omega)
    have z : (es.getD i d0).lt (es.getD (argBest (fun i j => (es.getD i d0).lt (es.getD j d0)) (its.toArray.size - 1)) d0) = false := z
    rw [gd hi, gd he] at z
    unfold Ent.lt at z
    unfold Ent.le
    by_cases c : f.k = e.k
    · rw [if_pos c] at z
      have := of_decide_eq_false z
      exact .inr ⟨c.symm, by omega⟩
    · rw [if_neg c] at z
      have := of_decide_eq_false z
      exact .inl (by omega)
end
end L2
set_option Elab.async false
set_option linter.all false
set_option maxRecDepth 100000
set_option maxHeartbeats 4000000
/-! tuple(range(n)): own work -/
namespace L2
open PySem PySem.Spec PyProof.Rows
open AutoSeq1 (wpAny_loadPart')
theorem tup_new_range (r : Addr) (n : Nat) (t1 t2 t3 : Tok) (hn : n < 2 ^ 20) :
    Meets (Builtin.«tuple.__new__» ⟨[.type "tuple", .ref r], []⟩)
      (fun A R s => A.handled = none ∧ IsRange s.heap r 0 n 1 t1 t2 t3 ∧ ∀ (h' : Heap) (tk : Nat) (vs : List Value), (∀ b o, s.heap.get? b = some o → h'.get? b = some o) → vs.length = n → (∀ (j : Nat) (v : Value), vs[j]? = some v → ∃ t, v = .int (0 + j * 1) t) →
        R (.ok (.ret (.ref h'.objs.size))) { s with heap := h'.push { cls := .type "tuple", data := .seq vs.toArray }, toks := tk }) :=
  .of_wp fun prog w A R s h => by
    obtain ⟨hp, g, d, tk, os⟩ := s
    obtain ⟨hh, hr, h⟩ := h
    have hsub := sub_tuple_self
    have hinit := init_tuple_lookup
    have hmh := madeHere_tuple
    have hT : Shared.TypeIs ⟨hp, g, d, tk, os⟩ (.ref r) "range" := ⟨_, hr, rfl⟩
    have hh1 : A.in1.handled = none := hh
    have hsz : Builtin.Range.rangeSize 0 (n : Int) 1 = (n : Int) := by rw [rangeSize_one]; split <;> omega
    wp_walk using wpAny_loadPart' hr, wpAny_typeOf hT, collect_range hh1 hr (small_one (by omega) (by omega) (by omega) (by omega)) hsz (by omega)
    intro h' tk' vs hk hs hl hv
    show wpAny _ _ (Builtin.Tuple.tupleExact vs.toArray >>= fun v => ret v) _ _ _
    unfold Builtin.Tuple.tupleExact
    refine wpAny_bind (wpAny_newObj_type ?_ (by show vs.toArray.size ≤ sizeLine; rw [List.size_toArray, hl, sizeLine_eq]; omega))
    exact wpAny_pure ⟨_, rfl, h h' tk' vs hk hl hv⟩
section
variable {X : Cx}
def rTupRng : List V → Hp → VK → Prop := fun vs H Q => ∃ (r : Addr) (j : Nat), vs = [.ref r] ∧ H r = some (.rng 0 j) ∧ j < 2 ^ 20 ∧ ∀ l, H l = none → Q (.ref l) (upd H l (.tup ((PySem.W.rangeKs 0 j).map V.int)))
theorem call_tupleRng (hc : X.calm = true) : CallR X (.type "tuple") rTupRng := by
  intro pins s σ H xs us Q I r h
  obtain ⟨r', j, rfl, hr, hj, q⟩ := h
  obtain ⟨u, rfl, ru⟩ := vals1 r
  cases ru
  obtain ⟨t, u, v, hh⟩ := I.hok _ _ hr
  refine callType_new PySem.F.called_tuple (by decide) (PySem.F.typeCall_tuple_1 _) (PySem.F.newCall_tuple_1 _) (fun obj => PySem.F.args_object_init_2 obj _) PySem.F.entry_tuple_new
    (tup_new_range r' j t u v hj) ⟨I.ok.hd hc, hh, fun h' tk vs hk hl hv => ⟨⟨_, Heap.get?_push_size _ rfl, rfl⟩, ?_⟩⟩
  have hi : IntsAre vs (PySem.W.rangeKs 0 j) := PySem.W.kll_ints _ _ _ hl hv
  have I1 : Inv X pins σ H { s with heap := h', toks := tk } := I.kept (t' := tk) hk
  have I2 := I1.laid (t' := tk) (o := .tup ((PySem.W.rangeKs 0 j).map V.int)) (h' := h'.push { cls := .type "tuple", data := .seq vs.toArray }) (a := h'.objs.size) (fun b o e => Heap.get?_push_of_some _ e) (Nat.le_refl _) ⟨by rw [List.length_map, PySem.W.rangeKs_length, sizeLine_eq]; omega, vs, vals_ints hi, IsTup.new _ _⟩
  exact ⟨.ref h'.objs.size, _, I2, rfl, q _ (I1.hok.fresh (Nat.le_refl _))⟩
end
end L2
set_option Elab.async false
set_option linter.all false
set_option maxRecDepth 100000
set_option maxHeartbeats 4000000
namespace KX
open PySem L2 Pa
def top (i : Nat) : Stmt := PySem.Challenge.pw_playedall_k12_whole_fewest.main.body.getD i (.Pass ⟨0, 0, 0, 0⟩)
abbrev sD_is_number : Stmt := top 5
theorem sc_is_number : FnScope ["value", "least", "most"] ["value", "least", "most"] (defScope sD_is_number) := ⟨rfl, rfl, rfl, by decide +kernel, rfl, by decide +kernel, by decide +kernel⟩
abbrev sD_is_player : Stmt := top 6
theorem sc_is_player : FnScope ["value", "players"] ["value", "players"] (defScope sD_is_player) := ⟨rfl, rfl, rfl, by decide +kernel, rfl, by decide +kernel, by decide +kernel⟩
abbrev sD_is_won_game : Stmt := top 7
theorem sc_is_won_game : FnScope ["pair", "players"] ["pair", "players"] (defScope sD_is_won_game) := ⟨rfl, rfl, rfl, by decide +kernel, rfl, by decide +kernel, by decide +kernel⟩
abbrev sD_game_of : Stmt := top 8
theorem sc_game_of : FnScope ["pair"] ["pair"] (defScope sD_game_of) := ⟨rfl, rfl, rfl, by decide +kernel, rfl, by decide +kernel, by decide +kernel⟩
abbrev sD_is_begun : Stmt := top 9
theorem sc_is_begun : FnScope ["begun", "players", "before", "pair"] ["begun", "players"] (defScope sD_is_begun) := ⟨rfl, rfl, rfl, by decide +kernel, rfl, by decide +kernel, by decide +kernel⟩
abbrev sD_check_players : Stmt := top 10
theorem sc_check_players : FnScope ["players"] ["players"] (defScope sD_check_players) := ⟨rfl, rfl, rfl, by decide +kernel, rfl, by decide +kernel, by decide +kernel⟩
abbrev sD_check_begun : Stmt := top 11
theorem sc_check_begun : FnScope ["begun", "players"] ["begun", "players"] (defScope sD_check_begun) := ⟨rfl, rfl, rfl, by decide +kernel, rfl, by decide +kernel, by decide +kernel⟩
abbrev sD_all_games : Stmt := top 12
theorem sc_all_games : FnScope ["players", "games", "lesser"] ["players"] (defScope sD_all_games) := ⟨rfl, rfl, rfl, by decide +kernel, rfl, by decide +kernel, by decide +kernel⟩
theorem cs_all_games_1 : CmpScope (defScope sD_all_games) ["players", "games", "lesser"] { kind := .function, names := [(PySem.Str.ofString ".0", NameKind.local), (PySem.Str.ofString "greater", NameKind.local), (PySem.Str.ofString "lesser", NameKind.free)], isGenerator := false, isCoroutine := false, more := [] } ["greater", "lesser"] 1 [2] := ⟨rfl, by decide +kernel, by decide +kernel, by decide +kernel, rfl, by decide +kernel, by decide +kernel⟩
abbrev sD_check_round : Stmt := top 13
theorem sc_check_round : FnScope ["games", "players"] ["games", "players"] (defScope sD_check_round) := ⟨rfl, rfl, rfl, by decide +kernel, rfl, by decide +kernel, by decide +kernel⟩
abbrev sD_best_of : Stmt := top 16
theorem sc_best_of : FnScope ["some", "games", "known", "choices", "first", "behind", "best", "lost"] ["some", "games", "known"] (defScope sD_best_of) := ⟨rfl, rfl, rfl, by decide +kernel, rfl, by decide +kernel, by decide +kernel⟩
theorem cs_best_of_1 : CmpScope (defScope sD_best_of) ["some", "games", "known", "choices", "first", "behind", "best", "lost"] { kind := .function, names := [(PySem.Str.ofString ".0", NameKind.local), (PySem.Str.ofString "player", NameKind.local), (PySem.Str.ofString "first", NameKind.free)], isGenerator := false, isCoroutine := false, more := [] } ["player", "first"] 1 [4] := ⟨rfl, by decide +kernel, by decide +kernel, by decide +kernel, rfl, by decide +kernel, by decide +kernel⟩
theorem cs_best_of_2 : CmpScope (defScope sD_best_of) ["some", "games", "known", "choices", "first", "behind", "best", "lost"] { kind := .function, names := [(PySem.Str.ofString ".0", NameKind.local), (PySem.Str.ofString "player", NameKind.local), (PySem.Str.ofString "first", NameKind.free), (PySem.Str.ofString "games", NameKind.free)], isGenerator := false, isCoroutine := false, more := [] } ["player", "first", "games"] 1 [4, 1] := ⟨rfl, by decide +kernel, by decide +kernel, by decide +kernel, rfl, by decide +kernel, by decide +kernel⟩
abbrev sD_fewest : Stmt := top 17
theorem sc_fewest : FnScope ["games", "players"] ["games", "players"] (defScope sD_fewest) := ⟨rfl, rfl, rfl, by decide +kernel, rfl, by decide +kernel, by decide +kernel⟩
abbrev sD_law_cell_at : Stmt := top 19
theorem sc_law_cell_at : FnScope ["_law_script", "_law_k"] ["_law_script", "_law_k"] (defScope sD_law_cell_at) := ⟨rfl, rfl, rfl, by decide +kernel, rfl, by decide +kernel, by decide +kernel⟩
abbrev sD_law_mixed : Stmt := top 20
theorem sc_law_mixed : FnScope ["_law_cell", "_law_k", "_law_found"] ["_law_cell", "_law_k"] (defScope sD_law_mixed) := ⟨rfl, rfl, rfl, by decide +kernel, rfl, by decide +kernel, by decide +kernel⟩
abbrev sD_law_first_wins : Stmt := top 21
theorem sc_law_first_wins : FnScope ["_law_cell", "_law_one", "_law_other", "_law_players", "_law_drawn", "_law_sides"] ["_law_cell", "_law_one", "_law_other", "_law_players"] (defScope sD_law_first_wins) := ⟨rfl, rfl, rfl, by decide +kernel, rfl, by decide +kernel, by decide +kernel⟩
theorem cs_law_first_wins_1 : CmpScope (defScope sD_law_first_wins) ["_law_cell", "_law_one", "_law_other", "_law_players", "_law_drawn", "_law_sides"] { kind := .function, names := [(PySem.Str.ofString ".0", NameKind.local), (PySem.Str.ofString "_law_player", NameKind.local), (PySem.Str.ofString "_law_mixed", NameKind.globalImplicit), (PySem.Str.ofString "_law_cell", NameKind.free)], isGenerator := false, isCoroutine := false, more := [] } ["_law_player", "_law_cell"] 1 [0] := ⟨rfl, by decide +kernel, by decide +kernel, by decide +kernel, rfl, by decide +kernel, by decide +kernel⟩
abbrev sD_law_round_by : Stmt := top 22
theorem sc_law_round_by : FnScope ["_law_cell", "_law_players", "_law_games", "_law_one", "_law_other"] ["_law_cell", "_law_players"] (defScope sD_law_round_by) := ⟨rfl, rfl, rfl, by decide +kernel, rfl, by decide +kernel, by decide +kernel⟩
abbrev sD_law_table : Stmt := top 26
theorem sc_law_table : FnScope ["_law_games", "_law_players", "_law_best", "_law_some", "_law_inside", "_law_told", "_law_first"] ["_law_games", "_law_players"] (defScope sD_law_table) := ⟨rfl, rfl, rfl, by decide +kernel, rfl, by decide +kernel, by decide +kernel⟩
theorem cs_law_table_1 : CmpScope (defScope sD_law_table) ["_law_games", "_law_players", "_law_best", "_law_some", "_law_inside", "_law_told", "_law_first"] { kind := .function, names := [(PySem.Str.ofString ".0", NameKind.local), (PySem.Str.ofString "_law_player", NameKind.local), (PySem.Str.ofString "_law_some", NameKind.free)], isGenerator := false, isCoroutine := false, more := [] } ["_law_player", "_law_some"] 1 [3] := ⟨rfl, by decide +kernel, by decide +kernel, by decide +kernel, rfl, by decide +kernel, by decide +kernel⟩
theorem cs_law_table_2 : CmpScope (defScope sD_law_table) ["_law_games", "_law_players", "_law_best", "_law_some", "_law_inside", "_law_told", "_law_first"] { kind := .function, names := [(PySem.Str.ofString ".0", NameKind.local), (PySem.Str.ofString "_law_other", NameKind.local), (PySem.Str.ofString "_law_first", NameKind.free), (PySem.Str.ofString "_law_games", NameKind.free)], isGenerator := false, isCoroutine := false, more := [] } ["_law_other", "_law_first", "_law_games"] 1 [6, 0] := ⟨rfl, by decide +kernel, by decide +kernel, by decide +kernel, rfl, by decide +kernel, by decide +kernel⟩
abbrev sD_law_first_order : Stmt := top 27
theorem sc_law_first_order : FnScope ["_law_games", "_law_players", "_law_best", "_law_order", "_law_some", "_law_inside", "_law_first", "_law_rest"] ["_law_games", "_law_players", "_law_best"] (defScope sD_law_first_order) := ⟨rfl, rfl, rfl, by decide +kernel, rfl, by decide +kernel, by decide +kernel⟩
theorem cs_law_first_order_1 : CmpScope (defScope sD_law_first_order) ["_law_games", "_law_players", "_law_best", "_law_order", "_law_some", "_law_inside", "_law_first", "_law_rest"] { kind := .function, names := [(PySem.Str.ofString ".0", NameKind.local), (PySem.Str.ofString "_law_player", NameKind.local), (PySem.Str.ofString "_law_some", NameKind.free)], isGenerator := false, isCoroutine := false, more := [] } ["_law_player", "_law_some"] 1 [4] := ⟨rfl, by decide +kernel, by decide +kernel, by decide +kernel, rfl, by decide +kernel, by decide +kernel⟩
theorem cs_law_first_order_2 : CmpScope (defScope sD_law_first_order) ["_law_games", "_law_players", "_law_best", "_law_order", "_law_some", "_law_inside", "_law_first", "_law_rest"] { kind := .function, names := [(PySem.Str.ofString ".0", NameKind.local), (PySem.Str.ofString "_law_other", NameKind.local), (PySem.Str.ofString "_law_first", NameKind.free), (PySem.Str.ofString "_law_games", NameKind.free)], isGenerator := false, isCoroutine := false, more := [] } ["_law_other", "_law_first", "_law_games"] 1 [6, 0] := ⟨rfl, by decide +kernel, by decide +kernel, by decide +kernel, rfl, by decide +kernel, by decide +kernel⟩
abbrev sD_law : Stmt := top 28
theorem sc_law : FnScope ["_law_script", "_law_players", "_law_games", "_law_best", "_law_due", "_law_handed", "_law_again", "_law_found"] ["_law_script"] (defScope sD_law) := ⟨rfl, rfl, rfl, by decide +kernel, rfl, by decide +kernel, by decide +kernel⟩
set_option genInjectivity false in
structure Ds (K : PySem.W.Frag) (mg : Str → Option Value) where
  is_number : DefAt K mg "is_number" sD_is_number ["value", "least", "most"]
  is_player : DefAt K mg "is_player" sD_is_player ["value", "players"]
  is_won_game : DefAt K mg "is_won_game" sD_is_won_game ["pair", "players"]
  game_of : DefAt K mg "game_of" sD_game_of ["pair"]
  is_begun : DefAt K mg "is_begun" sD_is_begun ["begun", "players"]
  check_players : DefAt K mg "check_players" sD_check_players ["players"]
  check_begun : DefAt K mg "check_begun" sD_check_begun ["begun", "players"]
  all_games : DefAt K mg "all_games" sD_all_games ["players"]
  check_round : DefAt K mg "check_round" sD_check_round ["games", "players"]
  best_of : DefAt K mg "best_of" sD_best_of ["some", "games", "known"]
  fewest : DefAt K mg "fewest" sD_fewest ["games", "players"]
  law_cell_at : DefAt K mg "_law_cell_at" sD_law_cell_at ["_law_script", "_law_k"]
  law_mixed : DefAt K mg "_law_mixed" sD_law_mixed ["_law_cell", "_law_k"]
  law_first_wins : DefAt K mg "_law_first_wins" sD_law_first_wins ["_law_cell", "_law_one", "_law_other", "_law_players"]
  law_round_by : DefAt K mg "_law_round_by" sD_law_round_by ["_law_cell", "_law_players"]
  law_table : DefAt K mg "_law_table" sD_law_table ["_law_games", "_law_players"]
  law_first_order : DefAt K mg "_law_first_order" sD_law_first_order ["_law_games", "_law_players", "_law_best"]
  law : DefAt K mg "law" sD_law ["_law_script"]
  u_MOST_PLAYERS : Value
  g_MOST_PLAYERS : mg "MOST_PLAYERS" = some u_MOST_PLAYERS
  r_MOST_PLAYERS : RelV (.int 10) u_MOST_PLAYERS
  u_MOST_ORDERED : Value
  g_MOST_ORDERED : mg "MOST_ORDERED" = some u_MOST_ORDERED
  r_MOST_ORDERED : RelV (.int 8) u_MOST_ORDERED
structure Nm (mg : Str → Option Value) : Prop where
  bool : mg "bool" = none
  int : mg "int" = none
  isinstance : mg "isinstance" = none
  len : mg "len" = none
  list : mg "list" = none
  max : mg "max" = none
  min : mg "min" = none
  range : mg "range" = none
  sum : mg "sum" = none
  tuple : mg "tuple" = none
end KX
set_option Elab.async false
set_option linter.all false
set_option maxRecDepth 100000
set_option maxHeartbeats 4000000
namespace KX
open PySem L2 Pa
/-! ### isinstance of Python's own -/
theorem kit_ib (K : PySem.W.Frag) : PySem.W.kitOne K (.type "int") (.type "bool") = some false := by with_unfolding_all rfl
theorem kit_ii (K : PySem.W.Frag) : PySem.W.kitOne K (.type "int") (.type "int") = some true := by with_unfolding_all rfl
theorem kit_tt (K : PySem.W.Frag) : PySem.W.kitOne K (.type "tuple") (.type "tuple") = some true := by with_unfolding_all rfl
theorem kit_ll (K : PySem.W.Frag) : PySem.W.kitOne K (.type "list") (.type "list") = some true := by with_unfolding_all rfl
/-! ### what the defs of games promise -/
theorem int_of {l : List Int} {i : Nat} {v : V} (h : (l.map V.int)[i]? = some v) : ∃ x, l[i]? = some x ∧ v = .int x := by
  rw [List.getElem?_map] at h
  obtain ⟨x, hx, e⟩ := Option.map_eq_some_iff.mp h
  exact ⟨x, hx, e.symm⟩
def spNum : Sp := fun vs H Q _ => ∃ (v a b : Int), vs = [.int v, .int a, .int b] ∧ Q (.bl (decide (a ≤ v ∧ v ≤ b))) H
def spPlayer : Sp := fun vs H Q _ => ∃ (v n : Int), vs = [.int v, .int n] ∧ Q (.bl (decide (0 ≤ v ∧ v ≤ n - 1))) H
def spWon : Sp := fun vs H Q _ => ∃ (t : Addr) (p : Pr) (n : Int), vs = [.ref t, .int n] ∧ H t = some (.tup [.int p.1, .int p.2]) ∧ (0 ≤ p.1 ∧ p.1 < n ∧ 0 ≤ p.2 ∧ p.2 < n ∧ p.1 ≠ p.2) ∧ Q (.bl true) H
def spGame : Sp := fun vs H Q _ => ∃ (t : Addr) (p : Pr), vs = [.ref t] ∧ H t = some (.tup [.int p.1, .int p.2]) ∧ ∀ q, H q = none → Q (.ref q) (upd H q (.tup [.int (nrm p).1, .int (nrm p).2]))
section
variable {P : Program} {w : World} {K : PySem.W.Frag} {mg : Str → Option Value} {base : Heap}
theorem ok_is_number (D : Ds K mg) (N : Nm mg) : FnOk P w K mg base CX0 1 D.is_number.a D.is_number.d ["value", "least", "most"] spNum := by
  refine D.is_number.F.ok sc_is_number (fun vs H Q E h => ?_) (fun cdv A outer s H vs Q E hr h => ?_)
  · obtain ⟨v, a, b, rfl, _⟩ := h
    rfl
  obtain ⟨v, a, b, rfl, q⟩ := h
  refine ⟨_, (pss_cons (ps_if (PW.pt (pw_or (pt_val (pe_callB call_isi (by rfl) N.isinstance bt_isinstance (pa_cons (pv 0) (pa_cons (pe_bltn (v := .ty "bool") (by rfl) N.bool bt_bool rfl) pa_nil)))) (pw_or1 (pt_not (pt_val (pe_callB call_isi (by rfl) N.isinstance bt_isinstance (pa_cons (pv 0) (pa_cons (pe_bltn (v := .ty "int") (by rfl) N.int bt_int rfl) pa_nil)))))))) (pss_one (ps_ret pe_bl)) pss_nil)
    (pss_one (ps_ret (pe_chain op_le op_le (pv 1) (pv 0) (pv 2))))), ?_⟩
  refine ⟨_, rfl, _, _, _, _, rfl, TyOf.int v, kit_ib K, _, rfl, iteF ?_⟩
  refine ⟨_, rfl, _, _, _, _, rfl, TyOf.int v, kit_ii K, _, rfl, iteF ?_⟩
  refine ⟨_, rfl, _, rfl, _, _, rfl, rfl, _, rfl, ?_⟩
  refine ite2 (fun c => ?_) (fun c => ?_)
  · refine ⟨_, rfl, _, _, rfl, rfl, ?_⟩
    have c' := of_decide_eq_true c
    have e : decide (v ≤ b) = decide (a ≤ v ∧ v ≤ b) := decide_eq_decide.mpr ⟨fun h => ⟨c', h⟩, fun h => h.2⟩
    have q' : Q (.bl (decide (v ≤ b))) H := by rw [e]; exact q
    exact q'
  · have e : decide (a ≤ v ∧ v ≤ b) = false := decide_eq_false fun h => c (decide_eq_true h.1)
    rw [e] at q
    exact q
theorem ok_is_player (D : Ds K mg) (N : Nm mg) : FnOk P w K mg base CX0 2 D.is_player.a D.is_player.d ["value", "players"] spPlayer := by
  refine D.is_player.F.ok sc_is_player (fun vs H Q E h => ?_) (fun cdv A outer s H vs Q E hr h => ?_)
  · obtain ⟨v, n, rfl, _⟩ := h
    rfl
  obtain ⟨v, n, rfl, q⟩ := h
  refine ⟨_, (pss_one (ps_ret (pcall D.is_number (ok_is_number D N) hr (pa_cons (pv 0) (pa_cons pe_int (pa_cons (pe_op op_sub (pv 1) pe_int) pa_nil)))))), ?_⟩
  exact ⟨_, rfl, _, rfl, _, _, rfl, rfl, v, 0, n - 1, rfl, q⟩
theorem ok_is_won_game (D : Ds K mg) (N : Nm mg) : FnOk P w K mg base CX0 3 D.is_won_game.a D.is_won_game.d ["pair", "players"] spWon := by
  refine D.is_won_game.F.ok sc_is_won_game (fun vs H Q E h => ?_) (fun cdv A outer s H vs Q E hr h => ?_)
  · obtain ⟨t, p, n, rfl, _⟩ := h
    rfl
  obtain ⟨t, p, n, rfl, ht, hp, q⟩ := h
  have e1 : decide (0 ≤ p.1 ∧ p.1 ≤ n - 1) = true := decide_eq_true (by omega)
  have e2 : decide (0 ≤ p.2 ∧ p.2 ≤ n - 1) = true := decide_eq_true (by omega)
  refine ⟨_, (pss_cons (ps_if (PW.pt (pw_or (pt_not (pt_val (pe_callB call_isi (by rfl) N.isinstance bt_isinstance (pa_cons (pv 0) (pa_cons (pe_bltn (v := .ty "tuple") (by rfl) N.tuple bt_tuple rfl) pa_nil))))) (pw_or1 (pt_cmpR op_ne (pe_callB call_len_seq (by rfl) N.len bt_len (pa_cons (pv 0) pa_nil)) pe_int (nomark _))))) (pss_one (ps_ret pe_bl)) pss_nil)
    (pss_cons (ps_if (PW.pt (pw_or (pt_not (pt_val (pcall D.is_player (ok_is_player D N) hr (pa_cons (pe_ix ix_tup (pv 0) pe_int (fun _ _ => rfl)) (pa_cons (pv 1) pa_nil))))) (pw_or1 (pt_not (pt_val (pcall D.is_player (ok_is_player D N) hr (pa_cons (pe_ix ix_tup (pv 0) pe_int (fun _ _ => rfl)) (pa_cons (pv 1) pa_nil)))))))) (pss_one (ps_ret pe_bl)) pss_nil)
    (pss_one (ps_ret (pe_cmpR op_ne (pe_ix ix_tup (pv 0) pe_int (fun _ _ => rfl)) (pe_ix ix_tup (pv 0) pe_int (fun _ _ => rfl)) (nomark _)))))), ?_⟩
  refine ⟨_, rfl, _, _, _, _, rfl, TyOf.tup ht, kit_tt K, _, rfl, iteF ?_⟩
  refine ⟨_, rfl, t, _, rfl, .inr (SqT.of ht), rfl, _, rfl, iteF ?_⟩
  refine ⟨_, rfl, t, _, _, _, rfl, rfl, SqT.of ht, atI_nat (j := 0) rfl, _, rfl, p.1, n, rfl, ?_⟩
  rw [e1]
  refine ⟨_, rfl, iteF ?_⟩
  refine ⟨_, rfl, t, _, _, _, rfl, rfl, SqT.of ht, atI_nat (j := 1) rfl, _, rfl, p.2, n, rfl, ?_⟩
  rw [e2]
  refine ⟨_, rfl, iteF ?_⟩
  refine ⟨_, rfl, t, _, _, _, rfl, rfl, SqT.of ht, atI_nat (j := 0) rfl, _, rfl, t, _, _, _, rfl, rfl, SqT.of ht, atI_nat (j := 1) rfl, rfl, ?_⟩
  have e3 : decide (V.int p.1 = V.int p.2) = false := decide_eq_false fun z => by injection z with z; exact hp.2.2.2.2 z
  rw [e3]
  exact q
theorem ok_game_of (D : Ds K mg) (N : Nm mg) : FnOk P w K mg base CX0 1 D.game_of.a D.game_of.d ["pair"] spGame := by
  refine D.game_of.F.ok sc_game_of (fun vs H Q E h => ?_) (fun cdv A outer s H vs Q E hr h => ?_)
  · obtain ⟨t, p, rfl, _⟩ := h
    rfl
  obtain ⟨t, p, rfl, ht, q⟩ := h
  refine ⟨_, (pss_one (ps_ret (pe_tup (pa_cons (pe_callB (call_minT rfl) (by rfl) N.min bt_min (pa_cons (pv 0) pa_nil)) (pa_cons (pe_callB (call_maxT rfl) (by rfl) N.max bt_max (pa_cons (pv 0) pa_nil)) pa_nil))))), ?_⟩
  exact ⟨_, rfl, t, _, _, rfl, SqT.of ht, _, rfl, t, _, _, rfl, SqT.of ht, (by show 2 ≤ sizeLine; decide), q⟩
end
end KX
set_option Elab.async false
set_option linter.all false
set_option maxRecDepth 100000
set_option maxHeartbeats 4000000
namespace KX
open PySem L2 Pa
theorem lexLe_plt {m g : Pr} (h : plt m g) : HT.lexLe [g.1, g.2] [m.1, m.2] = false := by
  unfold plt at h
  rw [HT.lexLe_cons]
  by_cases e : g.1 = m.1
  · rw [if_pos e, HT.lexLe_cons, if_neg (by omega)]
    exact decide_eq_false (by omega)
  · rw [if_neg e]
    exact decide_eq_false (by omega)
theorem pw_later {α : Type} {R : α → α → Prop} : ∀ {l : List α} {i : Nat} {a : α}, l.Pairwise R → l[i]? = some a → ∀ g ∈ l.drop (i + 1), R a g
  | [], _, _, _, e => by simp at e
  | x :: r, 0, a, h, e => fun g hg => by
    simp at e
    subst e
    exact (List.pairwise_cons.mp h).1 g (by simpa using hg)
  | x :: r, i + 1, a, h, e => fun g hg => pw_later (l := r) (i := i) (List.pairwise_cons.mp h).2 (by simpa using e) g (by simpa using hg)
theorem map_at {α β : Type} {f : α → β} {l : List α} {i : Nat} {a : α} (h : l[i]? = some a) : (l.map f)[i]? = some (f a) := by rw [List.getElem?_map, h]; rfl
theorem take_at {α : Type} {l : List α} {i : Nat} {a : α} (h : l[i]? = some a) : l.take (i + 1) = l.take i ++ [a] := by rw [List.take_add_one, h]; rfl
def kk (g : Pr) : List Key := [Sum.inl g.1, Sum.inl g.2]
theorem kk_inj {a b : Pr} (h : kk a = kk b) : a = b := by
  unfold kk at h
  injection h with h1 h2
  injection h2 with h2 _
  injection h1 with h1
  injection h2 with h2
  exact Prod.ext h1 h2
/-- who won which game -/
def wput (acc : List (List Key × V)) (p : Pr) : List (List Key × V) := putK acc (kk (nrm p)) (.int p.1)
def wtab (bs : List Pr) : List (List Key × V) := bs.foldl wput []
theorem wtab_snoc (bs : List Pr) (p : Pr) : wtab (bs ++ [p]) = wput (wtab bs) p := by unfold wtab; rw [List.foldl_append]; rfl
theorem wtab_len (bs : List Pr) : (wtab bs).length ≤ bs.length := by
  have h : ∀ (l : List Pr) (acc : List (List Key × V)), (l.foldl wput acc).length ≤ acc.length + l.length := by
    intro l
    induction l with
    | nil => intro acc; exact Nat.le_refl _
    | cons p r ih =>
      intro acc
      have h1 := ih (wput acc p)
      have h2 : (wput acc p).length ≤ acc.length + 1 := length_putK _ _ _
      rw [List.foldl_cons, List.length_cons]
      omega
  have := h bs []
  simpa [wtab] using this
theorem wtab_has (bs : List Pr) (g : Pr) : (valV (wtab bs) (kk g)).isSome = decide (g ∈ bs.map nrm) := by
  have h : ∀ (l : List Pr) (acc : List (List Key × V)), (valV (l.foldl wput acc) (kk g)).isSome = (decide (g ∈ l.map nrm) || (valV acc (kk g)).isSome) := by
    intro l
    induction l with
    | nil => intro acc; simp
    | cons p r ih =>
      intro acc
      rw [List.foldl_cons, ih]
      unfold wput
      rw [valV_put]
      by_cases e : g = nrm p
      · subst e
        simp
      · rw [if_neg (fun z => e (kk_inj z))]
        have e' : decide (g ∈ (p :: r).map nrm) = decide (g ∈ r.map nrm) := by
          refine decide_eq_decide.mpr ⟨fun h => ?_, fun h => List.mem_cons_of_mem _ h⟩
          rcases List.mem_cons.mp h with h | h
          · exact absurd h e
          · exact h
        rw [e']
  have := h bs []
  simpa [wtab, valV_nil] using this
def spBegun : Sp := fun vs H Q _ => ∃ (a : Addr) (bs : List Pr) (n : Nat), vs = [.ref a, .int n] ∧ LP H a bs ∧ Bg n bs ∧ ∀ H', Same H H' → Q (.bl true) H'
def spCheckP : Sp := fun vs H Q _ => ∃ (n : Nat), vs = [.int n] ∧ 1 ≤ n ∧ n ≤ 10 ∧ Q .non H
def spCheck : Sp := fun vs H Q _ => ∃ (a : Addr) (bs : List Pr) (n : Nat), vs = [.ref a, .int n] ∧ LP H a bs ∧ Bg n bs ∧ 1 ≤ n ∧ n ≤ 10 ∧ ∀ H', Same H H' → Q .non H'
def spCheckR : Sp := fun vs H Q _ => ∃ (a : Addr) (bs : List Pr) (n : Nat), vs = [.ref a, .int n] ∧ LP H a bs ∧ Rd n bs ∧ 1 ≤ n ∧ n ≤ 10 ∧ ∀ H', Same H H' → Q .non H'
def spAll : Sp := fun vs H Q _ => ∃ (n : Nat), vs = [.int n] ∧ n ≤ 10 ∧ ∀ r H', H r = none → Same H H' → LP H' r (allG n) → Q (.ref r) H'
def spWinners : Sp := fun vs H Q _ => ∃ (a : Addr) (bs : List Pr), vs = [.ref a] ∧ LP H a bs ∧ bs.length ≤ 100 ∧ ∀ r H', H r = none → Same H H' → H' r = some (.dT (wtab bs)) → Q (.ref r) H'
def spWins : Sp := fun vs H Q _ => ∃ (a : Addr) (bs : List Pr) (n : Nat), vs = [.ref a, .int n] ∧ LP H a bs ∧ Bg n bs ∧ 1 ≤ n ∧ n ≤ 10 ∧ ∀ r H', H r = none → Same H H' → LI H' r (winsF n bs) → Q (.ref r) H'
def spLeft : Sp := fun vs H Q _ => ∃ (a : Addr) (bs : List Pr) (n : Nat), vs = [.ref a, .int n] ∧ LP H a bs ∧ Bg n bs ∧ 1 ≤ n ∧ n ≤ 10 ∧ ∀ r H', H r = none → Same H H' → LP H' r (leftG n bs) → Q (.ref r) H'
theorem ps_len {H : Hp} {vs : List V} {ps : List Pr} (h : Ps H vs ps) : vs.length = ps.length := Paired.length h
section
variable {P : Program} {w : World} {K : PySem.W.Frag} {mg : Str → Option Value} {base : Heap}
theorem ok_is_begun (D : Ds K mg) (N : Nm mg) : FnOk P w K mg base CX0 4 D.is_begun.a D.is_begun.d ["begun", "players"] spBegun := by
  refine D.is_begun.F.ok sc_is_begun (fun vs H Q E h => ?_) (fun cdv A outer s H vs Q E hr h => ?_)
  · obtain ⟨a, bs, n, rfl, _⟩ := h
    rfl
  obtain ⟨a, bs, n, rfl, ⟨us, ha, hps⟩, hB, q⟩ := h
  have hu0 := hr.units0
  refine ⟨_, (pss_cons (ps_if (pt_not (pt_val (pe_callB call_isi (by rfl) N.isinstance bt_isinstance (pa_cons (pv 0) (pa_cons (pe_bltn (v := .ty "list") (by rfl) N.list bt_list rfl) pa_nil))))) (pss_one (ps_ret pe_bl)) pss_nil)
    (pss_cons (ps_set (i := 2) sc_is_begun.nd rfl (Or.inl rfl) (pe_tup (pa_cons pe_int (pa_cons pe_int pa_nil))))
    (pss_cons (ps_for PassesOwn.never rfl (pi_list (pv 0)) (pg_name (i := 3) sc_is_begun.nd rfl (Or.inl rfl)) (pss_cons (ps_if (PW.pt (pw_or (pt_not (pt_val (pcall D.is_won_game (ok_is_won_game D N) hr (pa_cons (pv 3) (pa_cons (pv 1) pa_nil))))) (pw_or1 (pt_cmpR (op_leT hu0) (pcall D.game_of (ok_game_of D N) hr (pa_cons (pv 3) pa_nil)) (pv 2) (nomark _))))) (pss_one (ps_ret pe_bl)) pss_nil)
      (pss_one (ps_set (i := 2) sc_is_begun.nd rfl (Or.inl rfl) (pcall D.game_of (ok_game_of D N) hr (pa_cons (pv 3) pa_nil))))))
    (pss_one (ps_ret pe_bl))))), ?_⟩
  refine ⟨_, rfl, _, _, _, _, rfl, TyOf.lst ha, kit_ll K, _, rfl, iteF ?_⟩
  refine ⟨(by show 2 ≤ sizeLine; decide), fun b0 hb0 => ?_⟩
  have s0 : Same H (upd H b0 (.tup [.int 0, .int 0])) := Same.new hb0
  refine ⟨_, rfl, a, rfl, ⟨_, SqL.of (s0 _ _ ha)⟩, for_list (K := K) (a := a) (xs := us) (fun i σ H2 => ∃ (t : Addr) (m : Pr) (v : Option V), σ = [some (.ref a), some (.int n), some (.ref t), v] ∧ Same H H2 ∧
    H2 t = some (.tup [.int m.1, .int m.2]) ∧ ∀ g ∈ (bs.map nrm).drop i, plt m g) ⟨b0, (0, 0), none, rfl, s0, upd_same, fun g hg => ?_⟩ (fun i σ H2 _ ⟨_, _, _, _, s2, _⟩ => SqL.of (s2 _ _ ha)) ?_ ?_⟩
  · have hg' := mem_allG.mp (hB.subset (by simpa using hg))
    show (0 : Int) < g.1 ∨ ((0 : Int) = g.1 ∧ (0 : Int) < g.2)
    omega
  · rintro i x σ H2 hi ⟨t, m, v, rfl, s2, ht, hm⟩
    obtain ⟨p, hp, tp, rfl, htp⟩ := hps.get hi
    have htp2 := s2 _ _ htp
    have hin := hB.mem (List.mem_of_getElem? hp)
    have hnp : (bs.map nrm)[i]? = some (nrm p) := map_at hp
    have hpl : plt m (nrm p) := hm _ (by
      refine List.mem_of_getElem? (i := 0) ?_
      rw [List.getElem?_drop, Nat.add_zero]
      exact hnp)
    refine ⟨_, rfl, _, rfl, tp, p, n, rfl, htp2, hin, _, rfl, iteF ?_⟩
    refine ⟨_, rfl, tp, p, rfl, htp2, fun q1 hq1 => ?_⟩
    have s3 : Same H2 (upd H2 q1 (.tup [.int (nrm p).1, .int (nrm p).2])) := Same.new hq1
    refine ⟨_, rfl, q1, t, [(nrm p).1, (nrm p).2], [m.1, m.2], rfl, rfl, SqT.of upd_same, SqT.of (s3 _ _ ht), _, rfl, ?_⟩
    rw [lexLe_plt hpl]
    refine iteF ?_
    refine ⟨_, rfl, tp, p, rfl, s3 _ _ htp2, fun q2 hq2 => ?_⟩
    exact ⟨q2, nrm p, _, rfl, s2.trans (s3.trans (Same.new hq2)), upd_same, pw_later hB.sorted hnp⟩
  · rintro σ H2 ⟨t, m, v, rfl, s2, _⟩
    exact q H2 s2
theorem ok_check_players (D : Ds K mg) (N : Nm mg) : FnOk P w K mg base CX0 3 D.check_players.a D.check_players.d ["players"] spCheckP := by
  refine D.check_players.F.ok sc_check_players (fun vs H Q E h => ?_) (fun cdv A outer s H vs Q E hr h => ?_)
  · obtain ⟨n, rfl, _⟩ := h
    rfl
  obtain ⟨n, rfl, h1, h10, q⟩ := h
  have e1 : decide ((1 : Int) ≤ (n : Int) ∧ (n : Int) ≤ 10) = true := decide_eq_true (by omega)
  refine ⟨_, (pss_one (ps_if (pt_not (pt_val (pcall D.is_number (ok_is_number D N) hr (pa_cons (pv 0) (pa_cons pe_int (pa_cons (pe_glob (v := .int 10) (by rfl) D.g_MOST_PLAYERS D.r_MOST_PLAYERS) pa_nil)))))) (pss_one ps_never) pss_nil)), ?_⟩
  refine ⟨_, rfl, n, 1, 10, rfl, ?_⟩
  rw [e1]
  exact ⟨_, rfl, iteF q⟩
theorem ok_check_begun (D : Ds K mg) (N : Nm mg) : FnOk P w K mg base CX0 5 D.check_begun.a D.check_begun.d ["begun", "players"] spCheck := by
  refine D.check_begun.F.ok sc_check_begun (fun vs H Q E h => ?_) (fun cdv A outer s H vs Q E hr h => ?_)
  · obtain ⟨a, bs, n, rfl, _⟩ := h
    rfl
  obtain ⟨a, bs, n, rfl, hL, hB, h1, h10, q⟩ := h
  refine ⟨_, (pss_cons (ps_expr (pcall D.check_players (ok_check_players D N) hr (pa_cons (pv 1) pa_nil)))
    (pss_one (ps_if (pt_not (pt_val (pcall D.is_begun (ok_is_begun D N) hr (pa_cons (pv 0) (pa_cons (pv 1) pa_nil))))) (pss_one ps_never) pss_nil))), ?_⟩
  refine ⟨_, rfl, n, rfl, h1, h10, ?_⟩
  exact ⟨_, rfl, _, rfl, a, bs, n, rfl, hL, hB, fun H' s' => ⟨_, rfl, iteF (q H' s')⟩⟩
theorem ok_all_games (D : Ds K mg) (N : Nm mg) : FnOk P w K mg base CX0 1 D.all_games.a D.all_games.d ["players"] spAll := by
  refine D.all_games.F.ok sc_all_games (fun vs H Q E h => ?_) (fun cdv A outer s H vs Q E hr h => ?_)
  · obtain ⟨n, rfl, _⟩ := h
    rfl
  obtain ⟨n, rfl, h10, q⟩ := h
  refine ⟨_, (pss_cons (ps_set (i := 1) sc_all_games.nd rfl (Or.inl rfl) (pe_lst pa_nil))
    (pss_cons (ps_for PassesOwn.never rfl (pi_range1 (by rfl) N.range (pa_cons (pv 0) pa_nil)) (pg_name (i := 2) sc_all_games.nd rfl (Or.inr rfl)) (pss_one (ps_expr (pe_bm PySem.F.plainAttrs_list PySem.F.slot_list_extend PySem.F.type_list_extend mt_extend (pv 1) (pa_cons (pe_comp rfl cs_all_games_1 (pi_range2 (by rfl) N.range (pa_cons (pe_op op_add (pv 2) pe_int) (pa_cons (pv 0) pa_nil))) (fun _ _ _ _ _ => (pg_name (i := 0) cs_all_games_1.nd rfl (Or.inl rfl))) (fun _ _ _ _ _ => pifs_nil) (fun _ _ _ _ _ => (pe_tup (pa_cons (pv 1) (pa_cons (pv 0) pa_nil))))) pa_nil)))))
    (pss_one (ps_ret (pv 1))))), ?_⟩
  refine ⟨Nat.zero_le _, fun r hr0 => ?_⟩
  have s0 : Same H (upd H r (.lst [])) := Same.new hr0
  refine ⟨_, rfl, (n : Int), rfl, by omega, by omega, for_range (fun i σ H2 => ∃ v : Option V, σ = [some (.int n), some (.ref r), v] ∧ Same H H2 ∧ LP H2 r (gamesTo n i)) ⟨none, rfl, s0, [], upd_same, .nil⟩ ?_ ?_⟩
  · rintro i σ H2 hi ⟨v, rfl, s2, us, hrl, hps⟩
    refine ⟨_, rfl, .inl ⟨rfl, _, SqL.of hrl⟩, _, rfl, _, _, rfl, rfl, _, rfl, _, _, rfl, ⟨by omega, by omega, by omega, by omega⟩, fun c hc => ?_⟩
    have hcr : c ≠ r := fun z => by rw [z, hrl] at hc; cases hc
    refine cmp_range (fun j acc H3 => Same H2 H3 ∧ H3 c = some (.lst acc) ∧ acc.length = j ∧ Ps H3 acc ((List.range j).map fun (k : Nat) => ((i : Int), (((i + 1 : Nat) : Int) + (k : Int))))) (small1000 (by omega)) ⟨Same.new hc, upd_same, rfl, .nil⟩
      (fun j acc H3 _ ⟨_, h2, h3, _⟩ => ⟨h2, Nat.le_of_eq h3⟩) ?_ ?_
    · rintro j acc H3 hj ⟨s3, hacc, hlen, hp3⟩
      refine ⟨⟨rfl, rfl⟩, ?_⟩
      refine ⟨_, rfl, _, rfl, (by show 2 ≤ sizeLine; decide), fun t ht => ?_⟩
      have s4 : Same H3 (upd H3 t (.tup [.int (0 + (i : Int)), .int (0 + (i : Int) + 1 + (j : Int))])) := Same.new ht
      refine ⟨s4 _ _ hacc, (s3.trans s4).put hc, upd_same, by rw [List.length_append, hlen]; rfl, ?_⟩
      rw [List.range_succ, List.map_append]
      refine Paired.append (Ps.mono (s4.ts.trans (TupS.upd_lst (s4 _ _ hacc))) hp3) (.cons ⟨t, rfl, ?_⟩ .nil)
      have hne : t ≠ c := fun z => by rw [z, hacc] at ht; cases ht
      have e1 : 0 + (i : Int) = i := by omega
      have e2 : 0 + (i : Int) + 1 + (j : Int) = ((i + 1 : Nat) : Int) + (j : Int) := by omega
      rw [upd_ne hne, upd_same, e2, e1]
    · rintro acc H3 ⟨s3, hacc, hlen, hp3⟩
      have hr3 := s3 _ _ hrl
      have hl2 := ps_len hps
      have hl3 := gamesTo_len_le n i
      have hi' : i < n := by omega
      have hz : us.length + acc.length ≤ sizeLine := by
        have h2 : i * n ≤ 10 * 10 := Nat.mul_le_mul (by omega) h10
        refine Nat.le_of_lt (small1000 ?_)
        omega
      refine ⟨r, c, us, acc, rfl, rfl, hr3, hacc, hz, ?_⟩
      refine ⟨_, rfl, (s2.trans s3).put hr0, us ++ acc, upd_same, ?_⟩
      rw [gamesTo_succ]
      have e : gamesOf n i = (List.range ((n : Int) - (0 + (i : Int) + 1)).toNat).map fun (k : Nat) => ((i : Int), (((i + 1 : Nat) : Int) + (k : Int))) := by
        unfold gamesOf
        rw [show ((n : Int) - (0 + (i : Int) + 1)).toNat = n - (i + 1) by omega]
      rw [e]
      exact Ps.mono (TupS.upd_lst hr3) (Paired.append (Ps.mono s3.ts hps) hp3)
  · rintro σ H2 ⟨v, rfl, s2, hL⟩
    exact ⟨_, rfl, q r H2 hr0 s2 (by simpa [allG] using hL)⟩
theorem ok_check_round (D : Ds K mg) (N : Nm mg) : FnOk P w K mg base CX0 6 D.check_round.a D.check_round.d ["games", "players"] spCheckR := by
  refine D.check_round.F.ok sc_check_round (fun vs H Q E h => ?_) (fun cdv A outer s H vs Q E hr h => ?_)
  · obtain ⟨a, bs, n, rfl, _⟩ := h
    rfl
  obtain ⟨a, bs, n, rfl, hL, hB, h1, h10, q⟩ := h
  refine ⟨_, (pss_cons (ps_expr (pcall D.check_begun (ok_check_begun D N) hr (pa_cons (pv 0) (pa_cons (pv 1) pa_nil))))
    (pss_one (ps_if (pt_cmpR op_ne (pe_callB call_len_seq (by rfl) N.len bt_len (pa_cons (pv 0) pa_nil)) (pe_callB call_len_seq (by rfl) N.len bt_len (pa_cons (pcall D.all_games (ok_all_games D N) hr (pa_cons (pv 1) pa_nil)) pa_nil)) (nomark _)) (pss_one ps_never) pss_nil))), ?_⟩
  refine ⟨_, rfl, _, rfl, a, bs, n, rfl, hL, hB.bg, h1, h10, fun H1 s1 => ?_⟩
  obtain ⟨us, ha, hps⟩ := hL.same s1
  refine ⟨_, rfl, a, us, rfl, .inl (SqL.of ha), _, rfl, n, rfl, h10, fun g H2 hg0 s2 hLg => ?_⟩
  obtain ⟨gs, hg, hpg⟩ := hLg
  refine ⟨g, gs, rfl, .inl (SqL.of hg), rfl, _, rfl, ?_⟩
  refine iteNS (congrArg V.int ?_) (q H2 (s1.trans s2))
  rw [ps_len hps, ps_len hpg, hB.len]
end
end KX
set_option Elab.async false
set_option linter.all false
set_option maxRecDepth 100000
set_option maxHeartbeats 4000000
namespace KX
open PySem L2 Pa
theorem rep_zero (n : Nat) : (List.replicate n [V.int 0]).flatten = (List.replicate n (0 : Int)).map V.int := by
  induction n with
  | zero => rfl
  | succ n ih => rw [List.replicate_succ, List.replicate_succ, List.flatten_cons, List.map_cons, ih]; rfl
theorem at_int {ws : List Int} {i : Int} (h0 : 0 ≤ i) (h1 : i < (ws.length : Int)) : atI (ws.map V.int) i = some (.int (ws.getD i.toNat 0)) := by
  obtain ⟨j, rfl⟩ := Int.eq_ofNat_of_zero_le h0
  refine atI_nat ?_
  have hj : j < ws.length := by omega
  rw [List.getElem?_map, List.getElem?_eq_getElem hj]
  simp [List.getD, List.getElem?_eq_getElem hj]
theorem ix_int {ws : List Int} {i : Int} (h0 : 0 ≤ i) (h1 : i < (ws.length : Int)) : ixN (ws.map V.int).length i = some i.toNat := by
  unfold ixN
  rw [List.length_map, if_pos h0, if_pos h1]
theorem bump_map {ws : List Int} {p : Pr} : (ws.map V.int).set p.1.toNat (.int (ws.getD p.1.toNat 0 + 1)) = (Pa.bump ws p).map V.int := by
  unfold Pa.bump
  rw [List.map_set]
theorem winsF_snoc (n : Nat) (bs : List Pr) (p : Pr) : winsF n (bs ++ [p]) = Pa.bump (winsF n bs) p := by unfold winsF; rw [List.foldl_append]; rfl
theorem filter_take_at {α : Type} {f : α → Bool} {l : List α} {i : Nat} {a : α} (h : l[i]? = some a) : (l.take (i + 1)).filter f = (l.take i).filter f ++ (if f a = true then [a] else []) := by
  rw [take_at h, List.filter_append]
  by_cases e : f a = true
  · rw [if_pos e, List.filter_cons, if_pos e, List.filter_nil]
  · rw [if_neg e, List.filter_cons, if_neg e, List.filter_nil]
section
variable {P : Program} {w : World} {K : PySem.W.Frag} {mg : Str → Option Value} {base : Heap}
end
end KX
set_option Elab.async false
set_option linter.all false
set_option maxRecDepth 100000
set_option maxHeartbeats 4000000
namespace KX
open PySem L2 Pa
def spLaw (K : PySem.W.Frag) : Sp := fun vs H Q _ => ∃ (a : Addr) (ns : List Int), vs = [.ref a] ∧ SqL K H a (ns.map V.int) ∧ ∀ H', Q (.bl true) H'
theorem eqv_ints (xs : List Int) : PyData.eqv (.list (xs.map PyData.int)) (.list (xs.map PyData.int)) = true := by rw [PyData.eqv, eqvAll_ints]; exact decide_eq_true rfl
theorem eqv_pds (xs : List Pr) : PyData.eqv (.list (xs.map pd)) (.list (xs.map pd)) = true := by rw [PyData.eqv, eqvAll_pd]; exact decide_eq_true rfl
def spCell (K : PySem.W.Frag) : Sp := fun vs H Q _ => ∃ (a : Addr) (ns : List Int) (k : Int), vs = [.ref a, .int k] ∧ SqL K H a (ns.map V.int) ∧ 0 ≤ k ∧ ∀ z, Q (.int z) H
def spMixed : Sp := fun vs H Q _ => ∃ (c k : Int), vs = [.int c, .int k] ∧ ∀ z, 0 ≤ z → z < 2147483629 → Q (.int z) H
def spFirst : Sp := fun vs H Q _ => ∃ (c o t n : Int), vs = [.int c, .int o, .int t, .int n] ∧ ∀ b H', Same H H' → Q (.bl b) H'
def spRound : Sp := fun vs H Q _ => ∃ (c : Int) (n : Nat), vs = [.int c, .int n] ∧ n ≤ 10 ∧ ∀ r H' gs, H r = none → Same H H' → gs.map nrm = allG n → LP H' r gs → Q (.ref r) H'
def spBegunBy : Sp := fun vs H Q _ => ∃ (a : Addr) (gs : List Pr) (c : Int), vs = [.ref a, .int c] ∧ LP H a gs ∧ gs.length ≤ 100 ∧ ∀ r H' bs, H r = none → Same H H' → bs.Sublist gs → LP H' r bs → Q (.ref r) H'
def spLawWins : Sp := fun vs H Q _ => ∃ (a : Addr) (bs : List Pr) (n : Nat), vs = [.ref a, .int n] ∧ LP H a bs ∧ (∀ p ∈ bs, 0 ≤ p.1 ∧ p.1 < (n : Int)) ∧ n ≤ 10 ∧ ∀ r H', H r = none → Same H H' → LI H' r (winsF n bs) → Q (.ref r) H'
theorem pd_int2 {H : Hp} {a b : V} {i j : Int} (h1 : a = .int i) (h2 : b = .int j) : DenAll H [a, b] [.int i, .int j] := by
  subst h1 h2
  exact .cons (.int _) (.cons (.int _) .nil)
section
variable {P : Program} {w : World} {K : PySem.W.Frag} {mg : Str → Option Value} {base : Heap}
theorem ok_law_cell_at (D : Ds K mg) (N : Nm mg) : FnOk P w K mg base CX0 1 D.law_cell_at.a D.law_cell_at.d ["_law_script", "_law_k"] (spCell K) := by
  refine D.law_cell_at.F.ok sc_law_cell_at (fun vs H Q E h => ?_) (fun cdv A outer s H vs Q E hr h => ?_)
  · obtain ⟨a, ns, k, rfl, _⟩ := h
    rfl
  obtain ⟨a, ns, k, rfl, hS, h0, q⟩ := h
  refine ⟨_, (pss_cons (ps_if (pt_cmpR op_lt (pv 1) (pe_callB call_len_seq (by rfl) N.len bt_len (pa_cons (pv 0) pa_nil)) (nomark _)) (pss_one (ps_ret (pe_ix ix_list (pv 0) (pv 1) (fun _ _ => rfl)))) pss_nil)
    (pss_one (ps_ret pe_int))), ?_⟩
  refine ⟨_, rfl, _, rfl, a, _, rfl, .inl hS, _, _, rfl, rfl, _, rfl, ite2 (fun c => ?_) (fun _ => q 0)⟩
  have c' := of_decide_eq_true c
  rw [List.length_map] at c'
  exact ⟨_, rfl, _, rfl, a, _, k, _, rfl, rfl, hS, at_int h0 c', q _⟩
theorem ok_law_mixed (D : Ds K mg) (N : Nm mg) : FnOk P w K mg base CX0 1 D.law_mixed.a D.law_mixed.d ["_law_cell", "_law_k"] spMixed := by
  refine D.law_mixed.F.ok sc_law_mixed (fun vs H Q E h => ?_) (fun cdv A outer s H vs Q E hr h => ?_)
  · obtain ⟨c, k, rfl, _⟩ := h
    rfl
  obtain ⟨c, k, rfl, q⟩ := h
  refine ⟨_, (pss_cons (ps_set (i := 2) sc_law_mixed.nd rfl (Or.inl rfl) (pe_op op_mod (pe_op op_mul (pe_op op_add (pe_op op_add (pv 0) (pe_op op_mul pe_int (pv 1))) pe_int) pe_int) pe_int))
    (pss_one (ps_ret (pe_op op_mod (pe_op op_mul (pv 2) (pv 2)) pe_int)))), ?_⟩
  refine ⟨_, rfl, _, rfl, _, _, rfl, rfl, .inl (by constructor <;> decide), _, _, rfl, rfl, _, _, rfl, rfl, _, _, rfl, rfl, .inr (by constructor <;> decide), _, _, rfl, rfl, (by show (0 : Int) < 2147483647; decide), ?_⟩
  have b0 : 0 ≤ (c + 977 * k + 31) * 48271 % 2147483647 := Int.emod_nonneg _ (by decide)
  have b1 : (c + 977 * k + 31) * 48271 % 2147483647 < 2147483647 := Int.emod_lt_of_pos _ (by decide)
  refine ⟨_, rfl, _, rfl, _, _, rfl, rfl, .inl ⟨by omega, by omega⟩, _, _, rfl, rfl, (by show (0 : Int) < 2147483629; decide), ?_⟩
  exact q _ (Int.emod_nonneg _ (by decide)) (Int.emod_lt_of_pos _ (by decide))
end
end KX
set_option Elab.async false
set_option linter.all false
set_option maxRecDepth 100000
set_option maxHeartbeats 4000000
namespace KX
open PySem L2 Pa
section
variable {P : Program} {w : World} {K : PySem.W.Frag} {mg : Str → Option Value} {base : Heap}
theorem ok_law_first_wins (D : Ds K mg) (N : Nm mg) : FnOk P w K mg base CX0 2 D.law_first_wins.a D.law_first_wins.d ["_law_cell", "_law_one", "_law_other", "_law_players"] spFirst := by
  refine D.law_first_wins.F.ok sc_law_first_wins (fun vs H Q E h => ?_) (fun cdv A outer s H vs Q E hr h => ?_)
  · obtain ⟨c, o, t, n, rfl, _⟩ := h
    rfl
  obtain ⟨c, o, t, n, rfl, q⟩ := h
  have hu64 := hr.units
  refine ⟨_, (pss_cons (ps_set (i := 4) sc_law_first_wins.nd rfl (Or.inl rfl) (pcall D.law_mixed (ok_law_mixed D N) hr (pa_cons (pv 0) (pa_cons (pe_op op_add (pe_op op_mul pe_int (pv 1)) (pv 2)) pa_nil))))
    (pss_cons (ps_if (pt_cmpR op_eq (pe_op op_mod (pv 0) pe_int) pe_int (nomark _)) (pss_one (ps_ret (pe_cmpR op_gt (pe_op op_mod (pv 4) pe_int) pe_int (nomark _)))) pss_nil)
    (pss_cons (ps_if (PW.pt (pw_and (pt_cmpR op_eq (pe_op op_mod (pv 0) pe_int) pe_int (nomark _)) (pw_and1 (pt_cmpR op_ne (pe_cmpR op_lt (pv 1) (pe_op op_fdiv (pv 3) pe_int) (nomark _)) (pe_cmpR op_lt (pv 2) (pe_op op_fdiv (pv 3) pe_int) (nomark _)) (nomark _))))) (pss_one (ps_ret (pe_cmpR op_eq (pe_op op_mod (pe_op op_fdiv (pv 0) pe_int) pe_int) pe_int (nomark _)))) pss_nil)
    (pss_cons (ps_if (PW.pt (pw_and (pt_cmpR op_eq (pe_op op_mod (pv 0) pe_int) pe_int (nomark _)) (pw_and1 (pt_cmpR op_lt (pv 2) pe_int (nomark _))))) (pss_one (ps_ret (pe_cmpR (op_neD hu64) (pe_tup (pa_cons (pv 1) (pa_cons (pv 2) pa_nil))) (pe_tup (pa_cons pe_int (pa_cons pe_int pa_nil))) (nomark _)))) pss_nil)
    (pss_cons (ps_if (pt_cmpR op_eq (pe_op op_mod (pv 0) pe_int) pe_int (nomark _)) (pss_cons (ps_setC rfl cs_law_first_wins_1 (pi_tup (pe_tup (pa_cons (pv 1) (pa_cons (pv 2) pa_nil)))) (fun _ _ _ _ _ => (pg_name (i := 0) cs_law_first_wins_1.nd rfl (Or.inl rfl))) (fun _ _ _ _ _ => pifs_nil) (fun _ _ _ _ _ => (pe_ifExp (pt_cmpR op_lt (pv 0) pe_int (nomark _)) pe_int (pe_op op_add pe_int (pe_op op_mod (pcall D.law_mixed (ok_law_mixed D N) hr (pa_cons (pv 1) (pa_cons (pv 0) pa_nil))) pe_int)))) sc_law_first_wins.nd (i := 5) rfl rfl)
      (pss_one (ps_if (pt_cmpR op_ne (pe_ix ix_list (pv 5) pe_int (fun _ _ => rfl)) (pe_ix ix_list (pv 5) pe_int (fun _ _ => rfl)) (nomark _)) (pss_one (ps_ret (pe_cmpR op_eq (pe_op op_mod (pe_op op_sub (pe_ix ix_list (pv 5) pe_int (fun _ _ => rfl)) (pe_ix ix_list (pv 5) pe_int (fun _ _ => rfl))) pe_int) pe_int (nomark _)))) pss_nil))) pss_nil)
    (pss_one (ps_ret (pe_cmpR op_eq (pe_op op_mod (pv 4) pe_int) pe_int (nomark _))))))))), ?_⟩
  refine ⟨_, rfl, _, rfl, _, _, rfl, rfl, .inl (by constructor <;> decide), _, rfl, _, _, rfl, rfl, c, _, rfl, fun z z0 z1 => ?_⟩
  -- the kind 1
  refine ⟨_, rfl, _, _, rfl, rfl, (by show (0 : Int) < 4; decide), rfl, _, rfl, ite2 (fun _ => ?_) (fun _ => ?_)⟩
  · exact ⟨_, rfl, _, _, rfl, rfl, (by show (0 : Int) < 5; decide), _, _, rfl, rfl, q _ _ (Same.refl _)⟩
  -- the kind 2
  refine ⟨_, rfl, _, _, rfl, rfl, (by show (0 : Int) < 4; decide), rfl, _, rfl, ite2 (fun _ => ⟨_, rfl, _, rfl, _, _, rfl, rfl, ⟨by decide, by decide⟩, _, _, rfl, rfl, _, rfl, _, rfl, _, _, rfl, rfl, ⟨by decide, by decide⟩, _, _, rfl, rfl, rfl, _, rfl,
    ite2 (fun _ => ?x1) (fun _ => ?_)⟩) (fun _ => iteF ?_)⟩
  case x1 => exact ⟨_, rfl, _, _, rfl, rfl, ⟨by decide, by decide⟩, _, _, rfl, rfl, (by show (0 : Int) < 2; decide), rfl, q _ _ (Same.refl _)⟩
  all_goals
    -- the kind 3, among the first three
    refine ⟨_, rfl, _, _, rfl, rfl, (by show (0 : Int) < 4; decide), rfl, _, rfl, ite2 (fun _ => ⟨_, rfl, _, _, rfl, rfl, _, rfl, ite2 (fun _ => ?x2) (fun _ => ?_)⟩) (fun _ => iteF ?_)⟩
    case x2 =>
      refine ⟨_, rfl, _, rfl, (by show 2 ≤ sizeLine; decide), fun t1 h1 => ⟨(by show 2 ≤ sizeLine; decide), fun t2 h2 => ?_⟩⟩
      have s1 : Same H (upd H t1 (.tup [.int o, .int t])) := Same.new h1
      have s2 := s1.trans (Same.new (o := .tup [.int 0, .int 2]) h2)
      have e1 : upd (upd H t1 (.tup [.int o, .int t])) t2 (.tup [.int 0, .int 2]) t1 = some (.tup [.int o, .int t]) := Same.new h2 _ _ upd_same
      exact ⟨_, _, .tup e1 (.cons (.int _) (.cons (.int _) .nil)), .tup upd_same (.cons (.int _) (.cons (.int _) .nil)), rfl, rfl, q _ _ s2⟩
    all_goals
      -- the kind 3
      refine ⟨_, rfl, _, _, rfl, rfl, (by show (0 : Int) < 4; decide), rfl, _, rfl, ite2 (fun _ => ?x3) (fun _ => ?_)⟩
      case x3 =>
        refine ⟨_, rfl, _, rfl, (by show 2 ≤ sizeLine; decide), fun t1 h1 => ⟨t1, rfl, ⟨_, SqT.of upd_same⟩, fun p hp => ?_⟩⟩
        have s1 : Same H (upd H t1 (.tup [.int o, .int t])) := Same.new h1
        refine cmp_tup (K := K) (a := t1) (xs := [.int o, .int t]) (fun i acc H3 => Same (upd H t1 (.tup [.int o, .int t])) H3 ∧ H3 p = some (.lst acc) ∧ acc.length = i ∧ ∃ is : List Int, acc = is.map V.int) (by show 2 < sizeLine; decide)
          ⟨Same.new hp, upd_same, rfl, [], rfl⟩ (fun i acc H3 _ ⟨s3, h2, h3, _⟩ => ⟨SqT.of (s3 _ _ upd_same), h2, Nat.le_of_eq h3⟩) ?_ ?_
        · rintro i x acc H3 hi ⟨s3, hacc, hlen, is, rfl⟩
          obtain ⟨v, rfl⟩ : ∃ v, x = V.int v := by
            match i, hi with
            | 0, hi => exact ⟨o, (Option.some.inj hi).symm⟩
            | 1, hi => exact ⟨t, (Option.some.inj hi).symm⟩
            | (k + 2), hi => cases hi
          refine ⟨⟨rfl, rfl⟩, ?_⟩
          refine ⟨_, rfl, _, _, rfl, rfl, _, rfl, ite2 (fun _ => ?_) (fun _ => ?_)⟩
          · exact ⟨hacc, s3.put hp, upd_same, by rw [List.length_append, hlen]; rfl, is ++ [0], by rw [List.map_append]; rfl⟩
          · refine ⟨_, rfl, _, rfl, _, _, rfl, fun z2 _ _ => ?_⟩
            refine ⟨_, _, rfl, rfl, (by show (0 : Int) < 2; decide), _, _, rfl, rfl, ?_⟩
            exact ⟨hacc, s3.put hp, upd_same, by rw [List.length_append, hlen]; rfl, is ++ [_], by rw [List.map_append]; rfl⟩
        · rintro acc H3 ⟨s3, hacc, hlen, is, rfl⟩
          match is, hlen, hacc with
          | [i0, i1], _, hacc =>
            refine ⟨_, rfl, p, _, _, _, rfl, rfl, SqL.of hacc, atI_nat (j := 0) rfl, _, rfl, p, _, _, _, rfl, rfl, SqL.of hacc, atI_nat (j := 1) rfl, rfl, _, rfl, ite2 (fun _ => ?_) (fun _ => ?_)⟩
            · exact ⟨_, rfl, p, _, _, _, rfl, rfl, SqL.of hacc, atI_nat (j := 1) rfl, _, rfl, p, _, _, _, rfl, rfl, SqL.of hacc, atI_nat (j := 0) rfl, _, _, rfl, rfl, _, _, rfl, rfl, (by show (0 : Int) < 3; decide), rfl, q _ _ (s1.trans s3)⟩
            · exact ⟨_, rfl, _, _, rfl, rfl, (by show (0 : Int) < 2; decide), rfl, q _ _ (s1.trans s3)⟩
          | [], h, _ => cases h
          | [_], h, _ => cases h
          | _ :: _ :: _ :: _, h, _ => cases h
      all_goals exact ⟨_, rfl, _, _, rfl, rfl, (by show (0 : Int) < 2; decide), rfl, q _ _ (Same.refl _)⟩
theorem ok_law_round_by (D : Ds K mg) (N : Nm mg) : FnOk P w K mg base CX0 3 D.law_round_by.a D.law_round_by.d ["_law_cell", "_law_players"] spRound := by
  refine D.law_round_by.F.ok sc_law_round_by (fun vs H Q E h => ?_) (fun cdv A outer s H vs Q E hr h => ?_)
  · obtain ⟨c, n, rfl, _⟩ := h
    rfl
  obtain ⟨c, n, rfl, h10, q⟩ := h
  refine ⟨_, (pss_cons (ps_set (i := 2) sc_law_round_by.nd rfl (Or.inl rfl) (pe_lst pa_nil))
    (pss_cons (ps_for PassesOwn.never rfl (pi_range1 (by rfl) N.range (pa_cons (pv 1) pa_nil)) (pg_name (i := 3) sc_law_round_by.nd rfl (Or.inl rfl)) (pss_one (ps_for PassesOwn.never rfl (pi_range2 (by rfl) N.range (pa_cons (pe_op op_add (pv 3) pe_int) (pa_cons (pv 1) pa_nil))) (pg_name (i := 4) sc_law_round_by.nd rfl (Or.inl rfl)) (pss_one (ps_expr (pe_bm PySem.F.plainAttrs_list PySem.F.slot_list_append PySem.F.type_list_append mt_append (pv 2) (pa_cons (pe_ifExp (pt_val (pcall D.law_first_wins (ok_law_first_wins D N) hr (pa_cons (pv 0) (pa_cons (pv 3) (pa_cons (pv 4) (pa_cons (pv 1) pa_nil)))))) (pe_tup (pa_cons (pv 3) (pa_cons (pv 4) pa_nil))) (pe_tup (pa_cons (pv 4) (pa_cons (pv 3) pa_nil)))) pa_nil)))))))
    (pss_one (ps_ret (pv 2))))), ?_⟩
  refine ⟨Nat.zero_le _, fun r hr0 => ?_⟩
  have s0 : Same H (upd H r (.lst [])) := Same.new hr0
  refine ⟨_, rfl, (n : Int), rfl, by omega, by omega, for_range (fun i σ H2 => ∃ (v v' : Option V) (gs : List Pr), σ = [some (.int c), some (.int n), some (.ref r), v, v'] ∧ Same H H2 ∧ LP H2 r gs ∧ gs.map nrm = gamesTo n i)
    ⟨none, none, [], rfl, s0, ⟨[], upd_same, .nil⟩, rfl⟩ ?_ ?_⟩
  · rintro i σ H2 hi ⟨v, v', gs0, rfl, s2, hL2, hg2⟩
    have hi' : i < n := by omega
    refine ⟨_, rfl, _, _, rfl, rfl, _, rfl, _, _, rfl, ⟨by omega, by omega, by omega, by omega⟩, for_range (fun j σ H3 => ∃ (v' : Option V) (gs : List Pr), σ = [some (.int c), some (.int n), some (.ref r), some (.int (0 + (i : Int))), v'] ∧ Same H H3 ∧
      LP H3 r gs ∧ gs.map nrm = gamesTo n i ++ (gamesOf n i).take j) ⟨v', gs0, rfl, s2, hL2, by rw [hg2, List.take_zero, List.append_nil]⟩ ?_ ?_⟩
    · rintro j σ H3 hj ⟨v', gs, rfl, s3, ⟨us, hrl, hps⟩, hgs⟩
      have hl2 := ps_len hps
      have hgl : gs.length ≤ 200 := by
        have e := congrArg List.length hgs
        have h1 := gamesTo_len_le n i
        have h2 : i * n ≤ 10 * 10 := Nat.mul_le_mul (by omega) h10
        have h3 := List.length_take_le j (gamesOf n i)
        have h4 := gamesOf_len n i
        rw [List.length_map, List.length_append] at e
        omega
      have hat : (gamesOf n i)[j]? = some ((i : Int), ((i + 1 : Nat) : Int) + (j : Int)) := by
        unfold gamesOf
        rw [List.getElem?_map, List.getElem?_range (by omega)]
        rfl
      refine ⟨_, rfl, .inl ⟨rfl, _, SqL.of hrl⟩, ?_⟩
      refine ⟨_, rfl, _, rfl, _, rfl, _, rfl, _, _, _, _, rfl, fun b H4 s4 => ⟨_, rfl, ?_⟩⟩
      have hrl4 := s4 _ _ hrl
      have fin : ∀ (p : Pr) (t : Addr), H4 t = none → nrm p = ((i : Int), ((i + 1 : Nat) : Int) + (j : Int)) →
          ∃ (v' : Option V) (gs' : List Pr), ([some (.int c), some (.int n), some (.ref r), some (.int (0 + (i : Int))), some (.int (0 + (i : Int) + 1 + (j : Int)))] : St) = [some (.int c), some (.int n), some (.ref r), some (.int (0 + (i : Int))), v'] ∧
            Same H (upd (upd H4 t (.tup [.int p.1, .int p.2])) r (.lst (us ++ [.ref t]))) ∧ LP (upd (upd H4 t (.tup [.int p.1, .int p.2])) r (.lst (us ++ [.ref t]))) r gs' ∧ gs'.map nrm = gamesTo n i ++ (gamesOf n i).take (j + 1) := by
        intro p t ht hp
        have s5 : Same H4 (upd H4 t (.tup [.int p.1, .int p.2])) := Same.new ht
        have hne : t ≠ r := fun z => by rw [z, hrl4] at ht; cases ht
        refine ⟨_, gs ++ [p], rfl, (s3.trans (s4.trans s5)).put hr0, ⟨us ++ [.ref t], upd_same, ?_⟩, ?_⟩
        · refine Paired.append (Ps.mono ((s4.trans s5).ts.trans (TupS.upd_lst (s5 _ _ hrl4))) hps) (.cons ⟨t, rfl, ?_⟩ .nil)
          rw [upd_ne hne, upd_same]
        · rw [List.map_append, hgs, take_at hat, List.append_assoc]
          simp only [List.map_cons, List.map_nil, hp]
      have n1 : nrm ((0 + (i : Int), 0 + (i : Int) + 1 + (j : Int)) : Pr) = ((i : Int), ((i + 1 : Nat) : Int) + (j : Int)) := by
        rcases nrm_cases ((0 + (i : Int), 0 + (i : Int) + 1 + (j : Int)) : Pr) with ⟨h1, e⟩ | ⟨h1, e⟩ | ⟨h1, e⟩ <;> simp only at h1 e
        · rw [e]; congr 1 <;> omega
        · omega
        · omega
      have n2 : nrm ((0 + (i : Int) + 1 + (j : Int), 0 + (i : Int)) : Pr) = ((i : Int), ((i + 1 : Nat) : Int) + (j : Int)) := by
        rcases nrm_cases ((0 + (i : Int) + 1 + (j : Int), 0 + (i : Int)) : Pr) with ⟨h1, e⟩ | ⟨h1, e⟩ | ⟨h1, e⟩ <;> simp only at h1 e
        · omega
        · rw [e]; congr 1 <;> omega
        · omega
      refine ite2 (fun _ => ?_) (fun _ => ?_)
      · refine ⟨_, rfl, _, rfl, (by show 2 ≤ sizeLine; decide), fun t ht => ?_⟩
        refine ⟨r, us, _, rfl, rfl, Same.new ht _ _ hrl4, small1000 (by omega), ?_⟩
        exact fin (0 + (i : Int), 0 + (i : Int) + 1 + (j : Int)) t ht n1
      · refine ⟨_, rfl, _, rfl, (by show 2 ≤ sizeLine; decide), fun t ht => ?_⟩
        refine ⟨r, us, _, rfl, rfl, Same.new ht _ _ hrl4, small1000 (by omega), ?_⟩
        exact fin (0 + (i : Int) + 1 + (j : Int), 0 + (i : Int)) t ht n2
    · rintro σ H3 ⟨v', gs, rfl, s3, hL3, hgs⟩
      refine ⟨_, v', gs, rfl, s3, hL3, ?_⟩
      rw [hgs, gamesTo_succ, List.take_of_length_le]
      rw [gamesOf_len]
      omega
  · rintro σ H2 ⟨v, v', gs, rfl, s2, hL, hg⟩
    exact ⟨_, rfl, q r H2 gs hr0 s2 (by simpa [allG] using hg) hL⟩
end
end KX
set_option Elab.async false
set_option linter.all false
set_option maxRecDepth 100000
set_option maxHeartbeats 4000000
namespace L2
open PySem
theorem SameT.put {Pt : Addr} {H H' : Hp} {b : Addr} {o : HO} (s : SameT Pt H H') (hb : H b = none) : SameT Pt H (upd H' b o) := fun x u nx e => by
  rw [upd_ne (fun z => by rw [z, hb] at e; cases e)]
  exact s x u nx e
theorem SameT.putP {Pt : Addr} {H H' : Hp} {o : HO} (s : SameT Pt H H') : SameT Pt H (upd H' Pt o) := fun x u nx e => by
  rw [upd_ne nx]
  exact s x u nx e
theorem SameT.none {Pt : Addr} {H H' : Hp} {b : Addr} {o : HO} (s : SameT Pt H H') (hP : H' Pt = some o) (hb : H' b = none) : H b = none := by
  cases q : H b with
  | none => rfl
  | some u =>
    have := s b u (fun z => by rw [z, hP] at hb; cases hb) q
    rw [hb] at this; cases this
theorem SameT.tup {Pt : Addr} {H H' : Hp} {b : Addr} {xs : List V} {kvs : List (List Key × V)} (s : SameT Pt H H') (hP : H Pt = some (.dT kvs)) (hb : H b = some (.tup xs)) : H' b = some (.tup xs) := s b _ (fun z => by rw [z, hP] at hb; cases hb) hb
theorem SameT.lst {Pt : Addr} {H H' : Hp} {b : Addr} {xs : List V} {kvs : List (List Key × V)} (s : SameT Pt H H') (hP : H Pt = some (.dT kvs)) (hb : H b = some (.lst xs)) : H' b = some (.lst xs) := s b _ (fun z => by rw [z, hP] at hb; cases hb) hb
theorem SameT.tsD {Pt : Addr} {H H' : Hp} {kvs : List (List Key × V)} (s : SameT Pt H H') (hP : H Pt = some (.dT kvs)) : TupS H H' := fun b xs e => s.tup hP e
theorem keys_putK {κ : Type} [DecidableEq κ] (kvs : List (κ × V)) (k : κ) (v : V) : (putK kvs k v).map (·.1) = if (valV kvs k).isSome = true then kvs.map (·.1) else kvs.map (·.1) ++ [k] := by
  unfold putK
  rw [valV_any]
  by_cases h : (valV kvs k).isSome = true
  · rw [if_pos h, if_pos h, List.map_map]
    refine List.map_congr_left fun p _ => ?_
    show (if p.1 = k then (p.1, v) else p).1 = p.1
    split <;> rfl
  · rw [if_neg h, if_neg h, List.map_append]
    rfl
end L2
namespace KX
open PySem L2 Pa
def ksI (S : List Int) : List Key := S.map Sum.inl
theorem ks_kV (S : List Int) : (ksI S).map kV = S.map V.int := by
  unfold ksI
  rw [List.map_map]
  rfl
theorem ks_inj {S T : List Int} (h : ksI S = ksI T) : S = T := by
  unfold ksI at h
  exact List.map_inj_right (fun a b e => Sum.inl.inj e) |>.mp h
/-- all that can be left of a list -/
def subsL : List Int → List (List Int)
  | [] => [[]]
  | a :: r => subsL r ++ (subsL r).map (a :: ·)
theorem subsL_len : ∀ l : List Int, (subsL l).length = 2 ^ l.length
  | [] => rfl
  | a :: r => by
    show (subsL r ++ (subsL r).map (a :: ·)).length = 2 ^ (r.length + 1)
    rw [List.length_append, List.length_map, subsL_len r, Nat.pow_succ]
    omega
theorem mem_subsL : ∀ {l S : List Int}, S.Sublist l → S ∈ subsL l
  | _, _, .slnil => by simp [subsL]
  | _, _, .cons a h => List.mem_append_left _ (mem_subsL h)
  | _, _, .cons₂ a h => List.mem_append_right _ (List.mem_map_of_mem (mem_subsL h))
/-- what is known so far -/
structure Kn (gs : List Pr) (n : Nat) (H0 H : Hp) (kvs : List (List Key × V)) : Prop where
  nd : (kvs.map (·.1)).Nodup
  sub : ∀ k ∈ kvs.map (·.1), ∃ S : List Int, k = ksI S ∧ S.Sublist (rng n)
  val : ∀ k v, valV kvs k = some v → ∃ (S : List Int) (t a : Addr), k = ksI S ∧ v = .ref t ∧ H t = some (.tup [.int (opt gs S).1, .ref a]) ∧ LI H a (opt gs S).2 ∧ H0 a = none ∧ (opt gs S).2 ≠ []
theorem Kn.len {gs : List Pr} {n : Nat} {H0 H : Hp} {kvs : List (List Key × V)} (h : Kn gs n H0 H kvs) (hn : n ≤ 8) : kvs.length ≤ 256 := by
  have z := sub_len (m := (subsL (rng n)).map ksI) h.nd (fun k hk => by
    obtain ⟨S, rfl, hS⟩ := h.sub k hk
    exact List.mem_map_of_mem (mem_subsL hS))
  rw [List.length_map, List.length_map, subsL_len, rng_len] at z
  have : 2 ^ n ≤ 2 ^ 8 := Nat.pow_le_pow_right (by decide) hn
  omega
theorem Kn.mono {gs : List Pr} {n : Nat} {H0 H H' : Hp} {kvs : List (List Key × V)} {d : Addr} {kvs' : List (List Key × V)} (h : Kn gs n H0 H kvs) (s : SameT d H H') (hd : H d = some (.dT kvs')) : Kn gs n H0 H' kvs :=
  ⟨h.nd, h.sub, fun k v e => let ⟨S, t, a, h1, h2, h3, h4, h5, h6⟩ := h.val k v e; ⟨S, t, a, h1, h2, s.tup hd h3, s.lst hd h4, h5, h6⟩⟩
theorem Kn.put {gs : List Pr} {n : Nat} {H0 H : Hp} {kvs : List (List Key × V)} {S : List Int} {t a : Addr} (h : Kn gs n H0 H kvs) (hS : S.Sublist (rng n)) (ht : H t = some (.tup [.int (opt gs S).1, .ref a])) (ha : LI H a (opt gs S).2) (h0 : H0 a = none) (hne : (opt gs S).2 ≠ []) : Kn gs n H0 H (putK kvs (ksI S) (.ref t)) := by
  have hk := keys_putK kvs (ksI S) (.ref t)
  refine ⟨?_, fun k hk' => ?_, fun k v e => ?_⟩
  · rw [hk]
    by_cases c : (valV kvs (ksI S)).isSome = true
    · rw [if_pos c]; exact h.nd
    · rw [if_neg c]
      refine List.nodup_append.mpr ⟨h.nd, by simp, fun x hx y hy z => ?_⟩
      rw [List.mem_singleton.mp hy] at z
      subst z
      exact valV_not (by simpa using c) hx
  · rw [hk] at hk'
    by_cases c : (valV kvs (ksI S)).isSome = true
    · rw [if_pos c] at hk'; exact h.sub k hk'
    · rw [if_neg c] at hk'
      rcases List.mem_append.mp hk' with z | z
      · exact h.sub k z
      · rw [List.mem_singleton.mp z]; exact ⟨S, rfl, hS⟩
  · rw [valV_put] at e
    by_cases c : k = ksI S
    · rw [if_pos c] at e
      cases e
      exact ⟨S, t, a, c, rfl, ht, ha, h0, hne⟩
    · rw [if_neg c] at e
      exact h.val k v e
/-- a list of ints that is not empty is no list of places -/
theorem ints_refs {α : Type} {f : α → Addr} {xs : List Int} {ys : List α} (hne : xs ≠ []) (h : xs.map V.int = ys.map fun e => V.ref (f e)) : False := by
  cases xs with
  | nil => exact hne rfl
  | cons a r =>
    cases ys with
    | nil => cases h
    | cons b t => rw [List.map_cons, List.map_cons] at h; injection h with h _; cases h
theorem li_ne {α : Type} {f : α → Addr} {H : Hp} {a ch : Addr} {xs : List Int} {ys : List α} (hne : xs ≠ []) (ha : H a = some (.lst (xs.map V.int))) (hc : H ch = some (.lst (ys.map fun e => V.ref (f e)))) : a ≠ ch := fun z => by
  rw [z, hc] at ha
  injection ha with ha
  injection ha with ha
  exact ints_refs hne ha.symm
theorem Kn.side {α : Type} {f : α → Addr} {gs : List Pr} {n : Nat} {H0 H : Hp} {kvs : List (List Key × V)} {ch : Addr} {ys : List α} {o : HO} (h : Kn gs n H0 H kvs) (hc : H ch = some (.lst (ys.map fun e => V.ref (f e)))) : Kn gs n H0 (upd H ch o) kvs :=
  ⟨h.nd, h.sub, fun k v e => let ⟨S, t, a, h1, h2, h3, h4, h5, h6⟩ := h.val k v e; ⟨S, t, a, h1, h2, by rw [upd_ne (fun z => by rw [z, hc] at h3; cases h3)]; exact h3, by
    show upd H ch o a = _
    rw [upd_ne (li_ne h6 h4 hc)]
    exact h4, h5, h6⟩⟩
theorem behind_sub {S l : List Int} (h : S.Sublist l) (f : Int) : (behind S f).Sublist l := List.filter_sublist.trans h
def spBest (m : Nat) : Sp := fun vs H Q _ => ∃ (t g d : Addr) (S : List Int) (gs : List Pr) (n : Nat) (kvs : List (List Key × V)) (H0 : Hp), vs = [.ref t, .ref g, .ref d] ∧ S.length ≤ m ∧ H t = some (.tup (S.map V.int)) ∧ S.Sublist (rng n) ∧ n ≤ 8 ∧ LP H g gs ∧ Rd n gs ∧ H d = some (.dT kvs) ∧ Kn gs n H0 H kvs ∧ (∀ b, H b = none → H0 b = none) ∧
  ∀ r a H' kvs', SameT d H H' → H' d = some (.dT kvs') → Kn gs n H0 H' kvs' → H' r = some (.tup [.int (opt gs S).1, .ref a]) → LI H' a (opt gs S).2 → H0 a = none → Q (.ref r) H'
theorem lp_sameD {H H' : Hp} {g d : Addr} {gs : List Pr} {kvs : List (List Key × V)} (hd : H d = some (.dT kvs)) (s : SameT d H H') (h : LP H g gs) : LP H' g gs := by
  obtain ⟨us, hg, hps⟩ := h
  exact ⟨us, s.lst hd hg, Ps.mono (s.tsD hd) hps⟩
section
variable {P : Program} {w : World} {K : PySem.W.Frag} {mg : Str → Option Value} {base : Heap}
theorem ok_best_of (D : Ds K mg) (N : Nm mg) : ∀ m : Nat, FnOk P w K mg base CX0 (m + 1) D.best_of.a D.best_of.d ["some", "games", "known"] (spBest m) := by
  intro m
  induction m with
  | zero =>
    refine D.best_of.F.ok sc_best_of (fun vs H Q E h => ?_) (fun cdv A outer s H vs Q E hr h => ?_)
    · obtain ⟨t, g, d, S, gs, n, kvs, H0, rfl, _⟩ := h
      rfl
    obtain ⟨t, g, d, S, gs, n, kvs, H0, rfl, hS0, ht, hS, h8, hL, hR, hd, hK, hext, q⟩ := h
    have : S = [] := List.eq_nil_of_length_eq_zero (by omega)
    subst this
    refine ⟨_, (pss_cons (ps_if (pt_cmpR op_eq (pe_callB call_len_seq (by rfl) N.len bt_len (pa_cons (pv 0) pa_nil)) pe_int (nomark _)) (pss_one (ps_ret (pe_tup (pa_cons pe_int (pa_cons (pe_lst pa_nil) pa_nil))))) pss_nil) (pss_cons ps_never (pss_one ps_never))), ?_⟩
    refine ⟨_, rfl, t, _, rfl, .inr (SqT.of ht), rfl, _, rfl, iteT ?_⟩
    refine ⟨Nat.zero_le _, fun l hl => ⟨(by show 2 ≤ sizeLine; decide), fun r hr0 => ?_⟩⟩
    have s1 := (Same.new (o := .lst []) hl).trans (Same.new (o := .tup [.int 0, .ref l]) hr0)
    exact q r l _ kvs (SameT.of s1) (s1 _ _ hd) (hK.mono (SameT.of s1) hd) upd_same ((Same.new hr0) _ _ upd_same) (hext l hl)
  | succ m ih =>
    refine D.best_of.F.ok sc_best_of (fun vs H Q E h => ?_) (fun cdv A outer s H vs Q E hr h => ?_)
    · obtain ⟨t, g, d, S, gs, n, kvs, H0, rfl, _⟩ := h
      rfl
    obtain ⟨t, g, d, S, gs, n, kvs, H0, rfl, hSm, ht, hS, h8, hL, hR, hd, hK, hext, q⟩ := h
    have hu := hu_of hr
    have hu64 := hr.units
    have hu65 := hr.u65
    have nd : S.Nodup := (rng_nodup n).sublist hS
    have hSl : S.length ≤ 8 := by have := hS.length_le; rw [rng_len] at this; omega
    refine ⟨_, (pss_cons (ps_if (pt_cmpR op_eq (pe_callB call_len_seq (by rfl) N.len bt_len (pa_cons (pv 0) pa_nil)) pe_int (nomark _)) (pss_one (ps_ret (pe_tup (pa_cons pe_int (pa_cons (pe_lst pa_nil) pa_nil))))) pss_nil)
    (pss_cons (ps_if (pt_cmp (pc_dnotin hu (pv 0) (pv 2))) (pss_cons (ps_set (i := 3) sc_best_of.nd rfl (Or.inl rfl) (pe_lst pa_nil))
      (pss_cons (ps_for PassesOwn.never rfl (pi_tup (pv 0)) (pg_name (i := 4) sc_best_of.nd rfl (Or.inr rfl)) (pss_cons (ps_set (i := 5) sc_best_of.nd rfl (Or.inl rfl) (pe_callTy call_tuple_of (by rfl) N.tuple bt_tuple (pa_cons (pe_comp rfl cs_best_of_1 (pi_tup (pv 0)) (fun _ _ _ _ _ => (pg_name (i := 0) cs_best_of_1.nd rfl (Or.inl rfl))) (fun _ _ _ _ _ => pifs_one (pt_cmpR op_ne (pv 0) (pv 1) (nomark _))) (fun _ _ _ _ _ => (pv 0))) pa_nil)))
        (pss_cons (ps_set (i := 6) sc_best_of.nd rfl (Or.inl rfl) (pcall D.best_of ih hr (pa_cons (pv 5) (pa_cons (pv 1) (pa_cons (pv 2) pa_nil))) (hj := Nat.le_refl _)))
        (pss_cons (ps_set (i := 7) sc_best_of.nd rfl (Or.inl rfl) (pe_callB call_len_seq (by rfl) N.len bt_len (pa_cons (pe_comp rfl cs_best_of_2 (pi_tup (pv 5)) (fun _ _ _ _ _ => (pg_name (i := 0) cs_best_of_2.nd rfl (Or.inl rfl))) (fun _ _ _ _ _ => pifs_one (pt_cmpR (op_inD hu65) (pe_tup (pa_cons (pv 0) (pa_cons (pv 1) pa_nil))) (pv 2) (by with_unfolding_all rfl))) (fun _ _ _ _ _ => (pv 0))) pa_nil)))
        (pss_one (ps_expr (pe_bm PySem.F.plainAttrs_list PySem.F.slot_list_append PySem.F.type_list_append mt_append (pv 3) (pa_cons (pe_tup (pa_cons (pe_op op_add (pv 7) (pe_ix ix_tup (pv 6) pe_int (fun _ _ => rfl))) (pa_cons (pe_op op_cat (pe_lst (pa_cons (pv 4) pa_nil)) (pe_ix ix_tup (pv 6) pe_int (fun _ _ => rfl))) pa_nil))) pa_nil))))))))
      (pss_one (ps_dput hu (pv 2) (pv 0) (pe_callB (call_minKL rfl hu64) (by rfl) N.min bt_min (pa_cons (pv 3) pa_nil)) rfl)))) pss_nil)
    (pss_one (ps_ret (pe_dget hu (pv 2) (pv 0) (fun _ _ => rfl)))))), ?_⟩
    refine ⟨_, rfl, t, _, rfl, .inr (SqT.of ht), rfl, _, rfl, ?_⟩
    by_cases hS0 : S = []
    · subst hS0
      refine iteT ?_
      refine ⟨Nat.zero_le _, fun l hl => ⟨(by show 2 ≤ sizeLine; decide), fun r hr0 => ?_⟩⟩
      have s1 := (Same.new (o := .lst []) hl).trans (Same.new (o := .tup [.int 0, .ref l]) hr0)
      exact q r l _ kvs (SameT.of s1) (s1 _ _ hd) (hK.mono (SameT.of s1) hd) upd_same ((Same.new hr0) _ _ upd_same) (hext l hl)
    rw [show decide (V.int (((S.map V.int).length : Nat) : Int) = V.int 0) = false from decide_eq_false (fun z => by
      injection z with z
      rw [List.length_map] at z
      exact hS0 (List.eq_nil_of_length_eq_zero (by omega)))]
    refine iteF ?_
    have htk : H t = some (.tup ((ksI S).map kV)) := by rw [ks_kV]; exact ht
    refine ⟨_, rfl, _, rfl, d, _, rfl, DGet.t hd htk, _, rfl, ?_⟩
    cases hval : valV kvs (ksI S) with
    | some v =>
      refine iteF ?_
      obtain ⟨S', t', a, h1, h2, h3, h4, h5, _⟩ := hK.val _ _ hval
      have := ks_inj h1
      subst this
      subst h2
      exact ⟨_, rfl, _, rfl, d, _, rfl, by rw [← hval]; exact DGet.t hd htk, q t' a H kvs (SameT.refl _ _) hd hK h3 h4 h5⟩
    | none =>
    refine iteT ?_
    refine ⟨Nat.zero_le _, fun ch hch0 => ?_⟩
    have s1 : Same H (upd H ch (.lst [])) := Same.new hch0
    have w1 : (upd H ch (.lst [])) ch = some (.lst []) := upd_same
    generalize upd H ch (.lst []) = H1 at s1 w1 ⊢
    refine ⟨_, rfl, t, rfl, ⟨_, SqT.of (s1 _ _ ht)⟩, for_tup (K := K) (a := t) (xs := S.map V.int) (fun i σ H2 => ∃ (v4 v5 v6 v7 : Option V) (es : List Ent) (kvs2 : List (List Key × V)), σ = [some (.ref t), some (.ref g), some (.ref d), some (.ref ch), v4, v5, v6, v7] ∧ SameT d H H2 ∧ H2 d = some (.dT kvs2) ∧ Kn gs n H0 H2 kvs2 ∧
        H2 ch = some (.lst (es.map fun e => V.ref e.t)) ∧ es.map Ent.h = S.take i ∧ ∀ e ∈ es, e.ok H2 ∧ (e.k, e.h, e.r) = candC gs S e.h ∧ H0 e.a = none)
      ⟨none, none, none, none, [], kvs, rfl, SameT.of s1, s1 _ _ hd, hK.mono (SameT.of s1) hd, w1, rfl, fun e he => by cases he⟩ (fun i σ H2 _ ⟨_, _, _, _, _, _, _, z, _⟩ => SqT.of (z.tup hd ht)) ?_ ?_⟩
    · rintro i x σ H2 hx ⟨v4, v5, v6, v7, es, kvs2, rfl, s2, hd2, hK2, hch2, heh, hes⟩
      obtain ⟨f, hf, rfl⟩ := int_of hx
      have hfS := List.mem_of_getElem? hf
      have hel : es.length ≤ 8 := by
        have := congrArg List.length heh
        rw [List.length_map, List.length_take] at this
        omega
      have ht2 := s2.tup hd ht
      refine ⟨_, rfl, t, rfl, ⟨_, SqT.of ht2⟩, fun c hc0 => ?_⟩
      refine cmp_tup (K := K) (a := t) (xs := S.map V.int) (fun j acc H3 => Same H2 H3 ∧ H3 c = some (.lst acc) ∧ acc = ((S.take j).filter fun p => !decide (p = f)).map V.int) (small1000 (by rw [List.length_map]; omega))
        ⟨Same.new hc0, upd_same, rfl⟩ (fun j acc H3 _ ⟨t3, h2, h3⟩ => ⟨SqT.of (t3 _ _ ht2), h2, by rw [h3, List.length_map]; exact Nat.le_trans (List.length_filter_le _ _) (List.length_take_le _ _)⟩) ?_ ?_
      · rintro j y acc H3 hj ⟨t3, hacc, rfl⟩
        obtain ⟨p, hp, rfl⟩ := int_of hj
        refine ⟨⟨rfl, rfl⟩, ?_⟩
        rw [filter_take_at hp]
        refine ⟨_, rfl, _, rfl, rfl, _, rfl, ?_⟩
        rw [show decide (V.int p = V.int f) = decide (p = f) from decide_eq_decide.mpr ⟨fun z => by injection z, fun z => by rw [z]⟩]
        refine ite2 (fun e => ?_) (fun e => ?_)
        · refine ⟨_, rfl, hacc, t3.put hc0, upd_same, ?_⟩
          rw [if_pos e, List.map_append]
          rfl
        · refine ⟨t3, hacc, ?_⟩
          rw [if_neg e, List.append_nil]
      rintro acc H3 ⟨t3, hacc, rfl⟩
      rw [List.length_map, List.take_length] at hacc
      refine ⟨c, _, rfl, .inl ⟨SqL.of hacc, fun bt hbt0 => ?_⟩⟩
      have t4 : Same H3 (upd H3 bt (.tup (((S.filter fun p => !decide (p = f)).map V.int)))) := Same.new hbt0
      have hbt : (upd H3 bt (.tup (((S.filter fun p => !decide (p = f)).map V.int)))) bt = some (.tup ((behind S f).map V.int)) := upd_same
      generalize upd H3 bt (.tup (((S.filter fun p => !decide (p = f)).map V.int))) = H4 at t4 hbt ⊢
      have t24 := t3.trans t4
      have s4 := s2.trans (SameT.of t24)
      have hd4 := t24 _ _ hd2
      have hbl := behind_len nd hfS
      refine ⟨_, rfl, _, rfl, _, rfl, bt, g, d, behind S f, gs, n, kvs2, H0, rfl, by omega, hbt, behind_sub hS f, h8, lp_sameD hd s4 hL, hR, hd4, hK2.mono (SameT.of t24) hd2, fun b hb => hext b (s4.none hd4 hb), fun r a H5 kvs5 s5 hd5 hK5 hr5 ha5 h0a => ?_⟩
      have s25 := (SameT.of t24).trans s5
      have hbt5 := s5.tup hd4 hbt
      refine ⟨_, rfl, bt, rfl, ⟨_, SqT.of hbt5⟩, fun c2 hc20 => ?_⟩
      refine cmp_tup (K := K) (a := bt) (xs := (behind S f).map V.int) (fun j acc H6 => Same H5 H6 ∧ H6 c2 = some (.lst acc) ∧ acc = (((behind S f).take j).filter fun p => decide ((p, f) ∈ gs)).map V.int) (small1000 (by rw [List.length_map]; omega))
        ⟨Same.new hc20, upd_same, rfl⟩ (fun j acc H6 _ ⟨t3, h2, h3⟩ => ⟨SqT.of (t3 _ _ hbt5), h2, by rw [h3, List.length_map]; exact Nat.le_trans (List.length_filter_le _ _) (List.length_take_le _ _)⟩) ?_ ?_
      · rintro j y acc H6 hj ⟨t6, hacc6, rfl⟩
        obtain ⟨p, hp, rfl⟩ := int_of hj
        refine ⟨⟨rfl, rfl⟩, ?_⟩
        refine ⟨_, rfl, _, rfl, (by show 2 ≤ sizeLine; decide), fun tt htt => ?_⟩
        have t7 : Same H6 (upd H6 tt (.tup [.int p, .int f])) := Same.new htt
        have w7 : (upd H6 tt (.tup [.int p, .int f])) tt = some (.tup [.int p, .int f]) := upd_same
        have hacc7 := t7 _ _ hacc6
        generalize upd H6 tt (.tup [.int p, .int f]) = H7 at t7 w7 hacc7 ⊢
        obtain ⟨us, hg, hps⟩ := lp_sameD hd (s4.trans (s5.trans (SameT.of (t6.trans t7)))) hL
        refine ⟨_, rfl, g, us, pd (p, f), gs.map pd, rfl, .inl hg, Ps.den hps, IsP.den ⟨tt, rfl, w7⟩, can_pd _, shaped_pd _, _, rfl, ?_⟩
        show if ((gs.map pd).any fun d => PyData.eqv d (pd (p, f))) = true then _ else _
        rw [any_pd, filter_take_at hp]
        refine ite2 (fun e => ?_) (fun e => ?_)
        · refine ⟨_, rfl, hacc7, (t6.trans t7).put hc20, upd_same, ?_⟩
          rw [if_pos e, List.map_append]
          rfl
        · refine ⟨t6.trans t7, hacc7, ?_⟩
          rw [if_neg e, List.append_nil]
      rintro acc H6 ⟨t6, hacc6, rfl⟩
      rw [List.length_map, List.take_length] at hacc6
      refine ⟨c2, _, rfl, .inl (SqL.of hacc6), ?_⟩
      have elost : (((((behind S f).filter fun p => decide ((p, f) ∈ gs)).map V.int).length : Nat) : Int) = lost gs (behind S f) f := by rw [List.length_map]; rfl
      show gName 7 (V.int _) _ _ _
      rw [elost]
      have s6 : SameT d H2 H6 := s25.trans (SameT.of t6)
      have hch6 := s6.lst hd2 hch2
      have hr6 := t6 _ _ hr5
      have ha6 := t6 _ _ ha5
      refine ⟨_, rfl, .inl ⟨rfl, _, SqL.of hch6⟩, _, rfl, _, rfl, r, _, 0, _, rfl, rfl, SqT.of hr6, rfl, _, _, rfl, rfl, _, rfl, (by show 1 ≤ sizeLine; decide), fun l1 hl1 => ?_⟩
      have t8 : Same H6 (upd H6 l1 (.lst [.int f])) := Same.new hl1
      have w8 : (upd H6 l1 (.lst [.int f])) l1 = some (.lst [.int f]) := upd_same
      generalize upd H6 l1 (.lst [.int f]) = H8 at t8 w8 ⊢
      refine ⟨_, rfl, r, _, 1, _, rfl, rfl, SqT.of (t8 _ _ hr6), rfl, l1, a, _, _, rfl, rfl, w8, t8 _ _ ha6, ?_, fun l2 hl2 => ?_⟩
      · refine Nat.le_of_lt (small1000 ?_)
        rw [List.length_map, opt_len _ _ rfl (behind_nodup nd)]
        show 1 + _ ≤ 1000
        omega
      have t9 : Same H8 (upd H8 l2 (.lst ([.int f] ++ (opt gs (behind S f)).2.map V.int))) := Same.new hl2
      have w9 : (upd H8 l2 (.lst ([.int f] ++ (opt gs (behind S f)).2.map V.int))) l2 = some (.lst ((f :: (opt gs (behind S f)).2).map V.int)) := upd_same
      generalize upd H8 l2 (.lst ([.int f] ++ (opt gs (behind S f)).2.map V.int)) = H9 at t9 w9 ⊢
      refine ⟨(by show 2 ≤ sizeLine; decide), fun te hte => ?_⟩
      have t10 : Same H9 (upd H9 te (.tup [.int (lost gs (behind S f) f + (opt gs (behind S f)).1), .ref l2])) := Same.new hte
      have w10 : (upd H9 te (.tup [.int (lost gs (behind S f) f + (opt gs (behind S f)).1), .ref l2])) te = some (.tup [.int (lost gs (behind S f) f + (opt gs (behind S f)).1), .ref l2]) := upd_same
      have w9 := t10 _ _ w9
      generalize upd H9 te (.tup [.int (lost gs (behind S f) f + (opt gs (behind S f)).1), .ref l2]) = H10 at t10 w10 w9 ⊢
      have t610 := t8.trans (t9.trans t10)
      have hch10 := t610 _ _ hch6
      refine ⟨ch, _, _, rfl, rfl, hch10, small1000 (by rw [List.length_map]; omega), ?_⟩
      have s10 : SameT d H2 H10 := s6.trans (SameT.of t610)
      have hchd : ch ≠ d := fun z => by rw [z, hd] at hch0; cases hch0
      have hd10 : H10 d = some (.dT kvs5) := t610 _ _ (t6 _ _ hd5)
      have hd11 : (upd H10 ch (.lst (es.map (fun e => V.ref e.t) ++ [.ref te]))) d = some (.dT kvs5) := by rw [upd_ne (Ne.symm hchd)]; exact hd10
      have keepE : ∀ {b : Addr} {xs : List V}, H10 b = some (.tup xs) → (upd H10 ch (.lst (es.map (fun e => V.ref e.t) ++ [.ref te]))) b = some (.tup xs) := fun {b xs} e => by rw [upd_ne (fun z => by rw [z, hch10] at e; cases e)]; exact e
      have nch : ∀ e ∈ es, e.a ≠ ch := fun e he => li_ne (List.cons_ne_nil _ _) (hes e he).1.2 hch2
      have nl2 : l2 ≠ ch := li_ne (List.cons_ne_nil _ _) w9 hch10
      refine ⟨_, _, _, _, es ++ [⟨te, lost gs (behind S f) f + (opt gs (behind S f)).1, l2, f, (opt gs (behind S f)).2⟩], kvs5, rfl, (s2.trans s10).put hch0, hd11, ?_, ?_, ?_, fun e he => ?_⟩
      · exact (hK5.mono (SameT.of (t6.trans t610)) hd5).side hch10
      · rw [upd_same, List.map_append]
        rfl
      · rw [List.map_append, heh, take_at hf]
        rfl
      · rcases List.mem_append.mp he with he | he
        · obtain ⟨⟨a1, a2⟩, a3, a4⟩ := hes e he
          refine ⟨⟨keepE (s10.tup hd2 a1), ?_⟩, a3, a4⟩
          rw [upd_ne (nch e he)]
          exact s10.lst hd2 a2
        · rw [List.mem_singleton.mp he]
          refine ⟨⟨keepE w10, ?_⟩, rfl, ?_⟩
          · show upd H10 ch _ l2 = _
            rw [upd_ne nl2]
            exact w9
          · exact hext l2 ((s2.trans (s6.trans (SameT.of t8))).none (t8 _ _ (t6 _ _ hd5)) hl2)
    · rintro σ H2 ⟨v4, v5, v6, v7, es, kvs2, rfl, s2, hd2, hK2, hch2, heh, hes⟩
      rw [List.length_map, List.take_length] at heh
      have hesne : es ≠ [] := fun z => by rw [z] at heh; exact hS0 heh.symm
      refine ⟨_, rfl, ch, es, rfl, hch2, hesne, fun e he => (hes e he).1, by rw [heh]; exact nd, fun e he hmin => ?_⟩
      obtain ⟨⟨a1, a2⟩, a3, a4⟩ := hes e he
      have hopt : opt gs S = (e.k, e.h :: e.r) := by
        have heS : e.h ∈ S := by rw [← heh]; exact List.mem_map_of_mem he
        have z := opt_is (gs := gs) nd heS (fun g hg => by
          rw [← heh] at hg
          obtain ⟨f, hf, rfl⟩ := List.mem_map.mp hg
          rw [← a3, ← (hes f hf).2.1]
          exact hmin f hf)
        rw [z, ← a3]
      have htk2 : H2 t = some (.tup ((ksI S).map kV)) := by rw [ks_kV]; exact s2.tup hd ht
      have hlen := hK2.len h8
      have hK3 := (hK2.put (t := e.t) (a := e.a) hS (by rw [hopt]; exact a1) (by rw [hopt]; exact a2) a4 (by rw [hopt]; exact List.cons_ne_nil _ _)).mono ((SameT.refl d H2).putP (o := .dT (putK kvs2 (ksI S) (.ref e.t)))) hd2
      have s3 := s2.putP (o := .dT (putK kvs2 (ksI S) (.ref e.t)))
      have hd3 : (upd H2 d (.dT (putK kvs2 (ksI S) (.ref e.t)))) d = some (.dT (putK kvs2 (ksI S) (.ref e.t))) := upd_same
      have ss := (SameT.refl d H2).putP (o := .dT (putK kvs2 (ksI S) (.ref e.t)))
      refine ⟨_, rfl, _, rfl, d, _, rfl, DPut.t hd2 htk2 (by rw [sizeLine_eq]; omega), ?_⟩
      refine ⟨_, rfl, _, rfl, d, _, rfl, ?_, q e.t e.a _ _ s3 hd3 hK3 (by rw [hopt]; exact ss.tup hd2 a1) (by rw [hopt]; exact ss.lst hd2 a2) a4⟩
      have z := DGet.t (k := ksI S) hd3 (ss.tup hd2 htk2)
      rw [valV_put, if_pos rfl] at z
      exact z
end
end KX
set_option Elab.async false
set_option linter.all false
set_option maxRecDepth 100000
set_option maxHeartbeats 4000000
namespace KX
open PySem L2 Pa
def spFewest : Sp := fun vs H Q _ => ∃ (g : Addr) (gs : List Pr) (n : Nat), vs = [.ref g, .int n] ∧ LP H g gs ∧ Rd n gs ∧ 1 ≤ n ∧ n ≤ 8 ∧
  ∀ r a H', Same H H' → H' r = some (.tup [.int (opt gs (rng n)).1, .ref a]) → LI H' a (opt gs (rng n)).2 → H a = none → Q (.ref r) H'
def spTable : Sp := fun vs H Q _ => ∃ (g : Addr) (gs : List Pr) (n : Nat), vs = [.ref g, .int n] ∧ LP H g gs ∧ Rd n gs ∧ n ≤ 8 ∧
  ∀ r H', H r = none → Same H H' → LI H' r (tblF gs n (2 ^ n)) → Q (.ref r) H'
theorem ks_rng (n : Nat) : PySem.W.rangeKs 0 n = rng n := by
  unfold PySem.W.rangeKs rng
  exact List.map_congr_left fun i _ => by omega
theorem none_same {H H' : Hp} {b : Addr} (s : Same H H') (h : H' b = none) : H b = none := by
  cases q : H b with
  | none => rfl
  | some u => rw [s _ _ q] at h; cases h
theorem sameT_same {H H1 H2 : Hp} {d : Addr} (s1 : Same H H1) (s2 : SameT d H1 H2) (hd : H d = none) : Same H H2 := fun x u e => s2 x u (fun z => by rw [z, hd] at e; cases e) (s1 x u e)
theorem filter_rng (f : Int → Bool) (j : Nat) : (rng (j + 1)).filter f = (rng j).filter f ++ if f (j : Int) = true then [(j : Int)] else [] := by
  rw [rng_succ, List.filter_append]
  congr 1
  by_cases e : f (j : Int) = true
  · rw [if_pos e, List.filter_cons, if_pos e, List.filter_nil]
  · rw [if_neg e, List.filter_cons, if_neg e, List.filter_nil]
theorem len_filter_rng (f : Int → Bool) (j : Nat) : ((rng j).filter f).length ≤ j := Nat.le_trans (List.length_filter_le _ _) (Nat.le_of_eq (rng_len j))
theorem shl_nat (k : Nat) : (1 : Int) * 2 ^ (k : Int).toNat = ((2 ^ k : Nat) : Int) := by
  rw [Int.one_mul, Int.toNat_natCast]
  exact (Int.natCast_pow 2 k).symm
theorem bit_code (m j : Nat) : decide (V.int (Builtin.bitAnd ((m : Int) / 2 ^ (0 + (j : Int)).toNat) 1) = V.int 1) = bit m (j : Int) := by
  rw [PyProof.Rows.bitAnd_m1, show (0 + (j : Int)).toNat = j by omega]
  unfold bit
  rw [Int.toNat_natCast]
  have e : (m : Int) / 2 ^ j % 2 = ((m / 2 ^ j % 2 : Nat) : Int) := by
    rw [Int.natCast_emod, Int.natCast_ediv, Int.natCast_pow]
    rfl
  rw [e]
  refine decide_eq_decide.mpr ⟨fun z => ?_, fun z => by rw [z]; rfl⟩
  injection z with z
  omega
theorem sum_ones {α : Type} : ∀ l : List α, (l.map fun _ => (1 : Int)).sum = (l.length : Nat)
  | [] => rfl
  | a :: r => by
    rw [List.map_cons, List.sum_cons, sum_ones r, List.length_cons]
    omega
theorem small_ones {α : Type} (l : List α) (h : l.length ≤ 1000) : SmallSum (l.map fun _ => (1 : Int)) := small_sum 1 (fun x hx => by
  obtain ⟨_, _, rfl⟩ := List.mem_map.mp hx
  omega) (by rw [List.length_map]; omega) (by decide)
theorem map_at_len {α β : Type} (f : α → β) (l : List α) : (l.map f).length = l.length := List.length_map ..
section
variable {P : Program} {w : World} {K : PySem.W.Frag} {mg : Str → Option Value} {base : Heap}
theorem ok_fewest (D : Ds K mg) (N : Nm mg) : FnOk P w K mg base CX0 10 D.fewest.a D.fewest.d ["games", "players"] spFewest := by
  refine D.fewest.F.ok sc_fewest (fun vs H Q E h => ?_) (fun cdv A outer s H vs Q E hr h => ?_)
  · obtain ⟨g, gs, n, rfl, _⟩ := h
    rfl
  obtain ⟨g, gs, n, rfl, hL, hR, h1, h8, q⟩ := h
  refine ⟨_, (pss_cons (ps_expr (pcall D.check_round (ok_check_round D N) hr (pa_cons (pv 0) (pa_cons (pv 1) pa_nil))))
    (pss_cons (ps_if (pt_cmpR op_gt (pv 1) (pe_glob (v := .int 8) (by rfl) D.g_MOST_ORDERED D.r_MOST_ORDERED) (nomark _)) (pss_one ps_never) pss_nil)
    (pss_one (ps_ret (pcall D.best_of (ok_best_of D N 8) hr (pa_cons (pe_callTy (call_tupleRng rfl) (by rfl) N.tuple bt_tuple (pa_cons (pe_callTy call_rangeV (by rfl) N.range bt_range (pa_cons (pv 1) pa_nil)) pa_nil)) (pa_cons (pv 0) (pa_cons pe_dnewT pa_nil)))))))), ?_⟩
  refine ⟨_, rfl, _, rfl, g, gs, n, rfl, hL, hR, h1, by omega, fun H1 s1 => ?_⟩
  refine ⟨_, rfl, _, _, rfl, rfl, _, rfl, ite2 (fun c => absurd (of_decide_eq_true c) (by omega)) (fun _ => ?_)⟩
  refine ⟨_, rfl, n, rfl, (by omega), fun r hr0 => ⟨r, n, rfl, upd_same, by omega, fun t ht0 => ?_⟩⟩
  have s2 : Same H1 (upd (upd H1 r (.rng 0 n)) t (.tup ((PySem.W.rangeKs 0 n).map V.int))) := (Same.new hr0).trans (Same.new ht0)
  have ht : (upd (upd H1 r (.rng 0 n)) t (.tup ((PySem.W.rangeKs 0 n).map V.int))) t = some (.tup ((rng n).map V.int)) := by rw [upd_same, ks_rng]
  generalize upd (upd H1 r (.rng 0 n)) t (.tup ((PySem.W.rangeKs 0 n).map V.int)) = H2 at s2 ht ⊢
  refine ⟨_, rfl, fun d hd0 => ?_⟩
  have s3 : Same H2 (upd H2 d (.dT [])) := Same.new hd0
  have hd : (upd H2 d (.dT [])) d = some (.dT []) := upd_same
  have s13 := s1.trans (s2.trans s3)
  have hd00 : H d = none := none_same (s1.trans s2) hd0
  have ht := s3 _ _ ht
  generalize upd H2 d (.dT []) = H3 at s3 hd s13 ht ⊢
  refine ⟨t, g, d, rng n, gs, n, [], H, rfl, by rw [rng_len]; omega, ht, List.Sublist.refl _, h8, hL.same s13, hR, hd, ⟨List.nodup_nil, fun k hk => (by cases hk), fun k v e => (by cases e)⟩, fun b hb => none_same s13 hb, fun r' a H' kvs' s4 _ _ hr' ha' h0 => ?_⟩
  exact q r' a H' (sameT_same s13 s4 hd00) hr' ha' h0
theorem ok_law_table (D : Ds K mg) (N : Nm mg) : FnOk P w K mg base CX0 1 D.law_table.a D.law_table.d ["_law_games", "_law_players"] spTable := by
  refine D.law_table.F.ok sc_law_table (fun vs H Q E h => ?_) (fun cdv A outer s H vs Q E hr h => ?_)
  · obtain ⟨g, gs, n, rfl, _⟩ := h
    rfl
  obtain ⟨g, gs, n, rfl, ⟨us, hg, hps⟩, hR, h8, q⟩ := h
  have hu65 := hr.u65
  have h256 := pow8 h8
  have hpos : 0 < 2 ^ n := Nat.pow_pos (by decide)
  refine ⟨_, (pss_cons (ps_set (i := 2) sc_law_table.nd rfl (Or.inl rfl) (pe_lst (pa_cons pe_int pa_nil)))
    (pss_cons (ps_for PassesOwn.never rfl (pi_range2 (by rfl) N.range (pa_cons pe_int (pa_cons (pe_op op_shl pe_int (pv 1)) pa_nil))) (pg_name (i := 3) sc_law_table.nd rfl (Or.inr rfl)) (pss_cons (ps_setC rfl cs_law_table_1 (pi_range1 (by rfl) N.range (pa_cons (pv 1) pa_nil)) (fun _ _ _ _ _ => (pg_name (i := 0) cs_law_table_1.nd rfl (Or.inl rfl))) (fun _ _ _ _ _ => pifs_one (pt_cmpR op_eq (pe_op op_and (pe_op op_shr (pv 1) (pv 0)) pe_int) pe_int (nomark _))) (fun _ _ _ _ _ => (pv 0)) sc_law_table.nd (i := 4) rfl rfl)
      (pss_cons (ps_set (i := 5) sc_law_table.nd rfl (Or.inl rfl) (pe_lst pa_nil))
      (pss_cons (ps_for PassesOwn.never rfl (pi_list (pv 4)) (pg_name (i := 6) sc_law_table.nd rfl (Or.inr rfl)) (pss_one (ps_expr (pe_bm PySem.F.plainAttrs_list PySem.F.slot_list_append PySem.F.type_list_append mt_append (pv 5) (pa_cons (pe_op op_add (pe_ix ix_list (pv 2) (pe_op op_sub (pv 3) (pe_op op_shl pe_int (pv 6))) (fun _ _ => rfl)) (pe_callB (call_sumL rfl) (by rfl) N.sum bt_sum (pa_cons (pe_comp rfl cs_law_table_2 (pi_list (pv 4)) (fun _ _ _ _ _ => (pg_name (i := 0) cs_law_table_2.nd rfl (Or.inl rfl))) (fun _ _ _ _ _ => pifs_one (pt_cmpR (op_inD hu65) (pe_tup (pa_cons (pv 0) (pa_cons (pv 1) pa_nil))) (pv 2) (by with_unfolding_all rfl))) (fun _ _ _ _ _ => pe_int)) pa_nil))) pa_nil)))))
      (pss_one (ps_expr (pe_bm PySem.F.plainAttrs_list PySem.F.slot_list_append PySem.F.type_list_append mt_append (pv 2) (pa_cons (pe_callB (call_minL rfl) (by rfl) N.min bt_min (pa_cons (pv 5) pa_nil)) pa_nil))))))))
    (pss_one (ps_ret (pv 2))))), ?_⟩
  refine ⟨(by show 1 ≤ sizeLine; decide), fun b hb0 => ?_⟩
  have s1 : Same H (upd H b (.lst [.int 0])) := Same.new hb0
  have w1 : LI (upd H b (.lst [.int 0])) b (tblF gs n 1) := by rw [tblF_one]; exact upd_same
  generalize upd H b (.lst [.int 0]) = H1 at s1 w1 ⊢
  refine ⟨_, rfl, _, _, rfl, rfl, ⟨by omega, by omega, by decide⟩, 1, ((2 ^ n : Nat) : Int), (by show [V.int 1, V.int (1 * 2 ^ (n : Int).toNat)] = _; rw [shl_nat]), ⟨by omega, by omega, by omega, by omega⟩, for_range (fun i σ H2 => ∃ (v3 v4 v5 v6 : Option V), σ = [some (.ref g), some (.int n), some (.ref b), v3, v4, v5, v6] ∧ Same H H2 ∧ LI H2 b (tblF gs n (i + 1)))
    ⟨none, none, none, none, rfl, s1, w1⟩ ?_ ?_⟩
  · rintro i σ H2 hi ⟨v3, v4, v5, v6, rfl, s2, hb2⟩
    have hi' : i + 1 < 2 ^ n := by omega
    rw [show (1 : Int) + (i : Int) = ((i + 1 : Nat) : Int) by omega]
    refine ⟨_, rfl, (n : Int), rfl, by omega, by omega, fun c hc0 => ?_⟩
    refine cmp_range (fun j acc H3 => Same H2 H3 ∧ H3 c = some (.lst acc) ∧ acc = ((rng j).filter (bit (i + 1))).map V.int) (small1000 (by omega)) ⟨Same.new hc0, upd_same, rfl⟩
      (fun j acc H3 _ ⟨_, h2, h3⟩ => ⟨h2, by rw [h3, List.length_map]; exact len_filter_rng _ _⟩) ?_ ?_
    · rintro j acc H3 hj ⟨s3, hacc, rfl⟩
      refine ⟨⟨rfl, rfl⟩, ?_⟩
      refine ⟨_, rfl, _, rfl, _, _, rfl, rfl, (by show (0 : Int) ≤ 0 + (j : Int); omega), _, _, rfl, rfl, rfl, _, rfl, ?_⟩
      rw [bit_code, filter_rng]
      refine ite2 (fun e => ?_) (fun e => ?_)
      · refine ⟨_, rfl, hacc, s3.put hc0, upd_same, ?_⟩
        rw [if_pos e, List.map_append, Int.zero_add]
        rfl
      · refine ⟨s3, hacc, ?_⟩
        rw [if_neg e, List.append_nil]
    rintro acc H3 ⟨s3, hacc, rfl⟩
    rw [Int.toNat_natCast] at hacc
    have hin : LI H3 c (ins n (i + 1)) := hacc
    have hil := ins_len n (i + 1)
    refine ⟨Nat.zero_le _, fun t ht0 => ?_⟩
    have s4 : Same H3 (upd H3 t (.lst [])) := Same.new ht0
    have w4 : LI (upd H3 t (.lst [])) t [] := upd_same
    generalize upd H3 t (.lst []) = H4 at s4 w4 ⊢
    have hin4 := s4 _ _ hin
    refine ⟨_, rfl, c, rfl, ⟨_, SqL.of hin4⟩, for_list (K := K) (a := c) (xs := (ins n (i + 1)).map V.int) (fun j σ H5 => ∃ v6 : Option V, σ = [some (.ref g), some (.int n), some (.ref b), some (.int ((i + 1 : Nat) : Int)), some (.ref c), some (.ref t), v6] ∧ Same H3 H5 ∧ LI H5 t (((ins n (i + 1)).take j).map fun f => (candC gs (ins n (i + 1)) f).1))
      ⟨v6, rfl, s4, w4⟩ (fun j σ H5 _ ⟨_, _, z, _⟩ => SqL.of (z _ _ hin)) ?_ ?_⟩
    · rintro j x σ H5 hj ⟨v6, rfl, s5, ht5⟩
      obtain ⟨f, hf, rfl⟩ := int_of hj
      have hfin := List.mem_of_getElem? hf
      obtain ⟨k, hfk, hk, hk2, hbh⟩ := ins_behind h8 hi' hfin
      have hff : (f, f) ∉ gs := fun z => hR.ne z rfl
      have s35 := s3.trans s5
      have hb5 := s35 _ _ hb2
      have hin5 := s5 _ _ hin
      have hidx : ((i + 1 : Nat) : Int) - 1 * 2 ^ f.toNat = ((i + 1 - 2 ^ k : Nat) : Int) := by rw [hfk, shl_nat]; omega
      refine ⟨_, rfl, .inl ⟨rfl, _, SqL.of ht5⟩, _, rfl, _, rfl, _, rfl, _, _, rfl, rfl, ⟨by omega, by omega, by decide⟩, _, _, rfl, rfl, b, _, _, _, rfl, rfl, SqL.of hb5, by rw [hidx]; exact atI_nat (map_at (tblF_at (k := i + 1 - 2 ^ k) (by have := Nat.pow_pos (n := k) (show 0 < 2 by decide); omega))), _, rfl, c, rfl, ⟨_, SqL.of hin5⟩, fun c2 hc20 => ?_⟩
      refine cmp_list (K := K) (a := c) (xs := (ins n (i + 1)).map V.int) (fun j acc H6 => Same H5 H6 ∧ H6 c2 = some (.lst acc) ∧ acc = ((((ins n (i + 1)).take j).filter fun p => decide ((p, f) ∈ gs)).map fun _ => (1 : Int)).map V.int) (small1000 (by rw [List.length_map]; omega))
        ⟨Same.new hc20, upd_same, rfl⟩ (fun j acc H6 _ ⟨t3, h2, h3⟩ => ⟨SqL.of (t3 _ _ hin5), h2, by rw [h3, List.length_map, List.length_map]; exact Nat.le_trans (List.length_filter_le _ _) (List.length_take_le _ _)⟩) ?_ ?_
      · rintro j2 y acc H6 hj2 ⟨t6, hacc6, rfl⟩
        obtain ⟨p, hp, rfl⟩ := int_of hj2
        refine ⟨⟨rfl, rfl⟩, ?_⟩
        refine ⟨_, rfl, _, rfl, (by show 2 ≤ sizeLine; decide), fun tt htt => ?_⟩
        have t7 : Same H6 (upd H6 tt (.tup [.int p, .int f])) := Same.new htt
        have w7 : (upd H6 tt (.tup [.int p, .int f])) tt = some (.tup [.int p, .int f]) := upd_same
        have hacc7 := t7 _ _ hacc6
        generalize upd H6 tt (.tup [.int p, .int f]) = H7 at t7 w7 hacc7 ⊢
        have s7 := s2.trans (s35.trans (t6.trans t7))
        refine ⟨_, rfl, g, us, pd (p, f), gs.map pd, rfl, .inl (s7 _ _ hg), Ps.den (Ps.mono s7.ts hps), IsP.den ⟨tt, rfl, w7⟩, can_pd _, shaped_pd _, _, rfl, ?_⟩
        show if ((gs.map pd).any fun d => PyData.eqv d (pd (p, f))) = true then _ else _
        rw [any_pd, filter_take_at hp]
        refine ite2 (fun e => ?_) (fun e => ?_)
        · refine ⟨hacc7, (t6.trans t7).put hc20, upd_same, ?_⟩
          rw [if_pos e, List.map_append, List.map_append]
          rfl
        · refine ⟨t6.trans t7, hacc7, ?_⟩
          rw [if_neg e, List.append_nil]
      rintro acc H6 ⟨t6, hacc6, rfl⟩
      rw [List.length_map, List.take_length] at hacc6
      have ht6 := t6 _ _ ht5
      refine ⟨c2, _, rfl, SqL.of hacc6, small_ones _ (Nat.le_trans (List.length_filter_le _ _) (by omega)), _, _, rfl, rfl, t, _, _, rfl, rfl, ht6, small1000 (by rw [List.length_map, List.length_map, List.length_take]; omega), ?_⟩
      refine ⟨_, rfl, (s5.trans t6).put ht0, ?_⟩
      unfold LI
      rw [upd_same, take_at hf, List.map_append, List.map_append, sum_ones]
      have := cost_tbl (gs := gs) (m := i + 1) hfk hbh hff
      rw [List.map_cons, List.map_nil, ← this]
      rfl
    · rintro σ H5 ⟨v6, rfl, s5, ht5⟩
      rw [List.length_map, List.take_length] at ht5
      have hb5 := (s3.trans s5) _ _ hb2
      have hne := ins_ne h8 hi' (Nat.succ_ne_zero i)
      refine ⟨_, rfl, .inl ⟨rfl, _, SqL.of hb5⟩, _, rfl, t, _, rfl, SqL.of ht5, (fun z => hne (List.map_eq_nil_iff.mp z)), fun m0 hm hle => ?_⟩
      refine ⟨b, _, _, rfl, rfl, hb5, small1000 (by rw [List.length_map, tblF_len]; omega), _, _, _, _, rfl, (s2.trans (s3.trans s5)).put hb0, ?_⟩
      unfold LI
      rw [upd_same, tblF_succ n (i + 1), List.map_append, opt_min (ins_nodup n (i + 1)) hne hm hle]
      rfl
  · rintro σ H2 ⟨v3, v4, v5, v6, rfl, s2, hb2⟩
    refine ⟨_, rfl, q b H2 hb0 s2 ?_⟩
    rw [show (((2 ^ n : Nat) : Int) - 1).toNat + 1 = 2 ^ n by omega] at hb2
    exact hb2
end
end KX
set_option Elab.async false
set_option linter.all false
set_option maxRecDepth 100000
set_option maxHeartbeats 4000000
namespace KX
open PySem L2 Pa
def spOrder : Sp := fun vs H Q _ => ∃ (g b : Addr) (gs : List Pr) (n : Nat), vs = [.ref g, .int n, .ref b] ∧ LP H g gs ∧ Rd n gs ∧ n ≤ 8 ∧ LI H b (tblF gs n (2 ^ n)) ∧
  ∀ r H', H r = none → Same H H' → LI H' r (opt gs (rng n)).2 → Q (.ref r) H'
section
variable {P : Program} {w : World} {K : PySem.W.Frag} {mg : Str → Option Value} {base : Heap}
theorem ok_law_first_order (D : Ds K mg) (N : Nm mg) : FnOk P w K mg base CX0 1 D.law_first_order.a D.law_first_order.d ["_law_games", "_law_players", "_law_best"] spOrder := by
  refine D.law_first_order.F.ok sc_law_first_order (fun vs H Q E h => ?_) (fun cdv A outer s H vs Q E hr h => ?_)
  · obtain ⟨g, b, gs, n, rfl, _⟩ := h
    rfl
  obtain ⟨g, b, gs, n, rfl, ⟨us, hg, hps⟩, hR, h8, hb, q⟩ := h
  have hu65 := hr.u65
  have h256 := pow8 h8
  have hpos : 0 < 2 ^ n := Nat.pow_pos (by decide)
  refine ⟨_, (pss_cons (ps_set (i := 3) sc_law_first_order.nd rfl (Or.inl rfl) (pe_lst pa_nil))
    (pss_cons (ps_set (i := 4) sc_law_first_order.nd rfl (Or.inr rfl) (pe_op op_sub (pe_op op_shl pe_int (pv 1)) pe_int))
    (pss_cons (ps_while PassesOwn.never (pt_cmpR op_gt (pv 4) pe_int (nomark _)) (pss_cons (ps_setC rfl cs_law_first_order_1 (pi_range1 (by rfl) N.range (pa_cons (pv 1) pa_nil)) (fun _ _ _ _ _ => (pg_name (i := 0) cs_law_first_order_1.nd rfl (Or.inl rfl))) (fun _ _ _ _ _ => pifs_one (pt_cmpR op_eq (pe_op op_and (pe_op op_shr (pv 1) (pv 0)) pe_int) pe_int (nomark _))) (fun _ _ _ _ _ => (pv 0)) sc_law_first_order.nd (i := 5) rfl rfl)
      (pss_one (ps_for PassesOwn.never rfl (pi_list (pv 5)) (pg_name (i := 6) sc_law_first_order.nd rfl (Or.inr rfl)) (pss_cons (ps_set (i := 7) sc_law_first_order.nd rfl (Or.inl rfl) (pe_op op_sub (pv 4) (pe_op op_shl pe_int (pv 6))))
        (pss_one (ps_if (pt_cmpR op_eq (pe_op op_add (pe_ix ix_list (pv 2) (pv 7) (fun _ _ => rfl)) (pe_callB (call_sumL rfl) (by rfl) N.sum bt_sum (pa_cons (pe_comp rfl cs_law_first_order_2 (pi_list (pv 5)) (fun _ _ _ _ _ => (pg_name (i := 0) cs_law_first_order_2.nd rfl (Or.inl rfl))) (fun _ _ _ _ _ => pifs_one (pt_cmpR (op_inD hu65) (pe_tup (pa_cons (pv 0) (pa_cons (pv 1) pa_nil))) (pv 2) (by with_unfolding_all rfl))) (fun _ _ _ _ _ => pe_int)) pa_nil))) (pe_ix ix_list (pv 2) (pv 4) (fun _ _ => rfl)) (nomark _)) (pss_cons (ps_expr (pe_bm PySem.F.plainAttrs_list PySem.F.slot_list_append PySem.F.type_list_append mt_append (pv 3) (pa_cons (pv 6) pa_nil)))
          (pss_cons (ps_set (i := 4) sc_law_first_order.nd rfl (Or.inr rfl) (pv 7))
          (pss_one ps_break))) pss_nil)))))))
    (pss_one (ps_ret (pv 3)))))), ?_⟩
  refine ⟨Nat.zero_le _, fun o ho0 => ?_⟩
  have s1 : Same H (upd H o (.lst [])) := Same.new ho0
  have w1 : LI (upd H o (.lst [])) o [] := upd_same
  generalize upd H o (.lst []) = H1 at s1 w1 ⊢
  refine ⟨_, rfl, _, _, rfl, rfl, ⟨by omega, by omega, by decide⟩, _, _, rfl, rfl, ?_⟩
  show gName 4 (V.int (1 * 2 ^ (n : Int).toNat - 1)) _ _ _
  rw [shl_nat, show ((2 ^ n : Nat) : Int) - 1 = ((2 ^ n - 1 : Nat) : Int) by omega]
  refine ⟨fun m σ H2 => ∃ (M : Nat) (ord : List Int) (v5 v6 v7 : Option V), σ = [some (.ref g), some (.int n), some (.ref b), some (.ref o), some (.int (M : Int)), v5, v6, v7] ∧ Same H H2 ∧ LI H2 o ord ∧ M < 2 ^ n ∧ ord.length + (ins n M).length ≤ n ∧ ord ++ (opt gs (ins n M)).2 = (opt gs (rng n)).2 ∧ M = m,
    ⟨_, 2 ^ n - 1, [], none, none, none, rfl, s1, w1, by omega, by rw [ins_all h8, rng_len]; exact Nat.le_of_eq (Nat.zero_add _), by rw [ins_all h8]; rfl, rfl⟩, ?_⟩
  rintro m σ H2 ⟨M, ord, v5, v6, v7, rfl, s2, ho2, hM, hol, hopt, rfl⟩
  refine ⟨_, rfl, _, _, rfl, rfl, _, rfl, ite2 (fun c => ?_) (fun c => ?_)⟩
  · have hM0 : M ≠ 0 := by have := of_decide_eq_true c; omega
    refine ⟨_, fun σ' H' h => h, ?_⟩
    refine ⟨_, rfl, (n : Int), rfl, by omega, by omega, fun c hc0 => ?_⟩
    refine cmp_range (fun j acc H3 => Same H2 H3 ∧ H3 c = some (.lst acc) ∧ acc = ((rng j).filter (bit M)).map V.int) (small1000 (by omega)) ⟨Same.new hc0, upd_same, rfl⟩
      (fun j acc H3 _ ⟨_, h2, h3⟩ => ⟨h2, by rw [h3, List.length_map]; exact len_filter_rng _ _⟩) ?_ ?_
    · rintro j acc H3 hj ⟨s3, hacc, rfl⟩
      refine ⟨⟨rfl, rfl⟩, ?_⟩
      refine ⟨_, rfl, _, rfl, _, _, rfl, rfl, (by show (0 : Int) ≤ 0 + (j : Int); omega), _, _, rfl, rfl, rfl, _, rfl, ?_⟩
      rw [bit_code, filter_rng]
      refine ite2 (fun e => ?_) (fun e => ?_)
      · refine ⟨_, rfl, hacc, s3.put hc0, upd_same, ?_⟩
        rw [if_pos e, List.map_append, Int.zero_add]
        rfl
      · refine ⟨s3, hacc, ?_⟩
        rw [if_neg e, List.append_nil]
    rintro acc H3 ⟨s3, hacc, rfl⟩
    rw [Int.toNat_natCast] at hacc
    have hin : LI H3 c (ins n M) := hacc
    have hil := ins_len n M
    have hne := ins_ne h8 hM hM0
    refine ⟨_, rfl, c, rfl, ⟨_, SqL.of hin⟩, for_list (K := K) (a := c) (xs := (ins n M).map V.int) (fun j σ H5 => ∃ v6 v7 : Option V, σ = [some (.ref g), some (.int n), some (.ref b), some (.ref o), some (.int (M : Int)), some (.ref c), v6, v7] ∧ Same H3 H5 ∧ ∀ f ∈ (ins n M).take j, (candC gs (ins n M) f).1 ≠ (opt gs (ins n M)).1)
      ⟨v6, v7, rfl, Same.refl _, fun f hf => by cases hf⟩ (fun j σ H5 _ ⟨_, _, _, z, _⟩ => SqL.of (z _ _ hin)) ?_ ?_⟩
    · rintro j x σ H5 hj ⟨v6, v7, rfl, s5, hno⟩
      obtain ⟨f, hf, rfl⟩ := int_of hj
      have hfin := List.mem_of_getElem? hf
      obtain ⟨k, hfk, hk, hk2, hbh⟩ := ins_behind h8 hM hfin
      have hff : (f, f) ∉ gs := fun z => hR.ne z rfl
      have s25 := s2.trans (s3.trans s5)
      have hb5 := s25 _ _ hb
      have hin5 := s5 _ _ hin
      have hk0 := Nat.pow_pos (n := k) (show 0 < 2 by decide)
      have hidx : (M : Int) - 1 * 2 ^ f.toNat = ((M - 2 ^ k : Nat) : Int) := by rw [hfk, shl_nat]; omega
      refine ⟨_, rfl, _, rfl, _, _, rfl, rfl, ⟨by omega, by omega, by decide⟩, _, _, rfl, rfl, ?_⟩
      show gName 7 (V.int ((M : Int) - 1 * 2 ^ f.toNat)) _ _ _
      rw [hidx]
      refine ⟨_, rfl, _, rfl, b, _, _, _, rfl, rfl, SqL.of hb5, atI_nat (map_at (tblF_at (k := M - 2 ^ k) (by omega))), _, rfl, c, rfl, ⟨_, SqL.of hin5⟩, fun c2 hc20 => ?_⟩
      refine cmp_list (K := K) (a := c) (xs := (ins n M).map V.int) (fun j acc H6 => Same H5 H6 ∧ H6 c2 = some (.lst acc) ∧ acc = ((((ins n M).take j).filter fun p => decide ((p, f) ∈ gs)).map fun _ => (1 : Int)).map V.int) (small1000 (by rw [List.length_map]; omega))
        ⟨Same.new hc20, upd_same, rfl⟩ (fun j acc H6 _ ⟨t3, h2, h3⟩ => ⟨SqL.of (t3 _ _ hin5), h2, by rw [h3, List.length_map, List.length_map]; exact Nat.le_trans (List.length_filter_le _ _) (List.length_take_le _ _)⟩) ?_ ?_
      · rintro j2 y acc H6 hj2 ⟨t6, hacc6, rfl⟩
        obtain ⟨p, hp, rfl⟩ := int_of hj2
        refine ⟨⟨rfl, rfl⟩, ?_⟩
        refine ⟨_, rfl, _, rfl, (by show 2 ≤ sizeLine; decide), fun tt htt => ?_⟩
        have t7 : Same H6 (upd H6 tt (.tup [.int p, .int f])) := Same.new htt
        have w7 : (upd H6 tt (.tup [.int p, .int f])) tt = some (.tup [.int p, .int f]) := upd_same
        have hacc7 := t7 _ _ hacc6
        generalize upd H6 tt (.tup [.int p, .int f]) = H7 at t7 w7 hacc7 ⊢
        have s7 := s25.trans (t6.trans t7)
        refine ⟨_, rfl, g, us, pd (p, f), gs.map pd, rfl, .inl (s7 _ _ hg), Ps.den (Ps.mono s7.ts hps), IsP.den ⟨tt, rfl, w7⟩, can_pd _, shaped_pd _, _, rfl, ?_⟩
        show if ((gs.map pd).any fun d => PyData.eqv d (pd (p, f))) = true then _ else _
        rw [any_pd, filter_take_at hp]
        refine ite2 (fun e => ?_) (fun e => ?_)
        · refine ⟨hacc7, (t6.trans t7).put hc20, upd_same, ?_⟩
          rw [if_pos e, List.map_append, List.map_append]
          rfl
        · refine ⟨t6.trans t7, hacc7, ?_⟩
          rw [if_neg e, List.append_nil]
      rintro acc H6 ⟨t6, hacc6, rfl⟩
      rw [List.length_map, List.take_length] at hacc6
      have s26 := s25.trans t6
      have hcost := cost_tbl (gs := gs) (m := M) hfk hbh hff
      refine ⟨c2, _, rfl, SqL.of hacc6, small_ones _ (Nat.le_trans (List.length_filter_le _ _) (by omega)), _, _, rfl, rfl, _, rfl, _, rfl, b, _, _, _, rfl, rfl, SqL.of (s26 _ _ hb), atI_nat (map_at (tblF_at hM)), rfl, _, rfl, ?_⟩
      show if decide (V.int ((opt gs (ins n (M - 2 ^ k))).1 + (((ins n M).filter fun p => decide ((p, f) ∈ gs)).map fun _ => (1 : Int)).sum) = V.int (opt gs (ins n M)).1) = true then _ else _
      rw [show (opt gs (ins n (M - 2 ^ k))).1 + (((ins n M).filter fun p => decide ((p, f) ∈ gs)).map fun _ => (1 : Int)).sum = (candC gs (ins n M) f).1 from by rw [sum_ones]; exact hcost]
      refine ite2 (fun e => ?_) (fun e => ?_)
      · have e' : (candC gs (ins n M) f).1 = (opt gs (ins n M)).1 := by have z := of_decide_eq_true e; injection z
        have ho6 : LI H6 o ord := (s3.trans (s5.trans t6)) _ _ ho2
        have hfo := opt_first (gs := gs) (ins_lt n M) hf e' hno
        have hbl := behind_len (ins_nodup n M) hfin
        have hipos := List.length_pos_of_mem hfin
        refine ⟨_, rfl, .inl ⟨rfl, _, SqL.of ho6⟩, _, rfl, o, _, _, rfl, rfl, ho6, small1000 (by rw [List.length_map]; omega), ?_⟩
        refine ⟨_, rfl, M - 2 ^ k, by omega, M - 2 ^ k, ord ++ [f], _, _, _, rfl, s26.put ho0, ?_, by omega, ?_, ?_, rfl⟩
        · unfold LI
          rw [upd_same, List.map_append]
          rfl
        · rw [hbh, hbl, List.length_append]
          show ord.length + 1 + _ ≤ n
          omega
        · rw [← hopt, hfo, hbh, List.append_assoc]
          rfl
      · refine ⟨_, _, rfl, s5.trans t6, fun f' hf' => ?_⟩
        rw [take_at hf] at hf'
        rcases List.mem_append.mp hf' with z | z
        · exact hno f' z
        · rw [List.mem_singleton.mp z]
          exact fun z => e (decide_eq_true (by rw [z]))
    · rintro σ H5 ⟨v6, v7, rfl, s5, hno⟩
      rw [List.length_map, List.take_length] at hno
      obtain ⟨f, hf, e⟩ := opt_some (gs := gs) (ins_nodup n M) hne
      exact absurd e (hno f hf)
  · have hM0 : M = 0 := by
      have : ¬ ((0 : Int) < (M : Int)) := fun z => c (decide_eq_true z)
      omega
    subst hM0
    refine ⟨_, rfl, q o H2 ho0 s2 ?_⟩
    rw [← hopt, ins_zero]
    show LI H2 o (ord ++ [])
    rw [List.append_nil]
    exact ho2
end
end KX
set_option Elab.async false
set_option linter.all false
set_option maxRecDepth 100000
set_option maxHeartbeats 4000000
namespace KX
open PySem L2 Pa
section
variable {P : Program} {w : World} {K : PySem.W.Frag} {mg : Str → Option Value} {base : Heap}
theorem ok_law (D : Ds K mg) (N : Nm mg) : FnOk P w K mg base CX0 11 D.law.a D.law.d ["_law_script"] (spLaw K) := by
  refine D.law.F.ok sc_law (fun vs H Q E h => ?_) (fun cdv A outer s H vs Q E hr h => ?_)
  · obtain ⟨a, ns, rfl, _⟩ := h
    rfl
  obtain ⟨a, ns, rfl, hS, q⟩ := h
  have hu64 := hr.units
  have hu65 := hr.u65
  refine ⟨_, (pss_cons (ps_set (i := 1) sc_law.nd rfl (Or.inl rfl) (pe_op op_add pe_int (pe_op op_mod (pcall D.law_cell_at (ok_law_cell_at D N) hr (pa_cons (pv 0) (pa_cons pe_int pa_nil))) pe_int)))
    (pss_cons (ps_if (pt_cmpR op_eq (pe_op op_mod (pe_op op_fdiv (pcall D.law_cell_at (ok_law_cell_at D N) hr (pa_cons (pv 0) (pa_cons pe_int pa_nil))) pe_int) pe_int) pe_int (nomark _)) (pss_one (ps_set (i := 1) sc_law.nd rfl (Or.inl rfl) pe_int)) pss_nil)
    (pss_cons (ps_if (pt_cmpR op_eq (pe_op op_mod (pe_op op_fdiv (pcall D.law_cell_at (ok_law_cell_at D N) hr (pa_cons (pv 0) (pa_cons pe_int pa_nil))) pe_int) pe_int) pe_int (nomark _)) (pss_one (ps_set (i := 1) sc_law.nd rfl (Or.inl rfl) pe_int)) pss_nil)
    (pss_cons (ps_set (i := 2) sc_law.nd rfl (Or.inl rfl) (pcall D.law_round_by (ok_law_round_by D N) hr (pa_cons (pcall D.law_cell_at (ok_law_cell_at D N) hr (pa_cons (pv 0) (pa_cons pe_int pa_nil))) (pa_cons (pv 1) pa_nil))))
    (pss_cons (ps_set (i := 3) sc_law.nd rfl (Or.inl rfl) (pcall D.law_table (ok_law_table D N) hr (pa_cons (pv 2) (pa_cons (pv 1) pa_nil))))
    (pss_cons (ps_set (i := 4) sc_law.nd rfl (Or.inl rfl) (pcall D.law_first_order (ok_law_first_order D N) hr (pa_cons (pv 2) (pa_cons (pv 1) (pa_cons (pv 3) pa_nil)))))
    (pss_cons (ps_set (i := 5) sc_law.nd rfl (Or.inl rfl) (pe_callTy call_list_of (by rfl) N.list bt_list (pa_cons (pv 2) pa_nil)))
    (pss_cons (ps_for PassesOwn.never rfl (pi_range1 (by rfl) N.range (pa_cons pe_int pa_nil)) (pg_name (i := 6) sc_law.nd rfl (Or.inl rfl)) (pss_cons (ps_set (i := 7) sc_law.nd rfl (Or.inl rfl) (pcall D.fewest (ok_fewest D N) hr (pa_cons (pv 5) (pa_cons (pv 1) pa_nil))))
      (pss_cons (ps_if (PW.pt (pw_or (pt_not (pt_val (pe_callB call_isi (by rfl) N.isinstance bt_isinstance (pa_cons (pv 7) (pa_cons (pe_bltn (v := .ty "tuple") (by rfl) N.tuple bt_tuple rfl) pa_nil))))) (pw_or (pt_cmpR op_ne (pe_callB call_len_seq (by rfl) N.len bt_len (pa_cons (pv 7) pa_nil)) pe_int (nomark _)) (pw_or (pt_val (pe_callB call_isi (by rfl) N.isinstance bt_isinstance (pa_cons (pe_ix ix_tup (pv 7) pe_int (fun _ _ => rfl)) (pa_cons (pe_bltn (v := .ty "bool") (by rfl) N.bool bt_bool rfl) pa_nil)))) (pw_or1 (pt_cmpR (op_neD hu64) (pv 5) (pv 2) (nomark _))))))) (pss_one (ps_ret pe_bl)) pss_nil)
      (pss_cons (ps_if (PW.pt (pw_or (pt_cmpR op_ne (pe_ix ix_tup (pv 7) pe_int (fun _ _ => rfl)) (pe_ix ix_list (pv 3) (pe_op op_sub (pe_callB call_len_seq (by rfl) N.len bt_len (pa_cons (pv 3) pa_nil)) pe_int) (fun _ _ => rfl)) (nomark _)) (pw_or (pt_not (pt_val (pe_callB call_isi (by rfl) N.isinstance bt_isinstance (pa_cons (pe_ix ix_tup (pv 7) pe_int (fun _ _ => rfl)) (pa_cons (pe_bltn (v := .ty "list") (by rfl) N.list bt_list rfl) pa_nil))))) (pw_or1 (pt_cmpR (op_neD hu64) (pe_ix ix_tup (pv 7) pe_int (fun _ _ => rfl)) (pv 4) (nomark _)))))) (pss_one (ps_ret pe_bl)) pss_nil)
      (pss_one (ps_expr (pe_bm0 PySem.F.plainAttrs_list PySem.F.slot_list_clear PySem.F.type_list_clear mt_clear (pe_ix ix_tup (pv 7) pe_int (fun _ _ => rfl)))))))))
    (pss_one (ps_ret pe_bl)))))))))), ?_⟩
  refine ⟨_, rfl, a, ns, 0, rfl, hS, by decide, fun z0 => ⟨_, _, rfl, rfl, (by show (0 : Int) < 6; decide), _, _, rfl, rfl, ?_⟩⟩
  obtain ⟨n, hn⟩ : ∃ n : Nat, 1 + z0 % 6 = (n : Int) := ⟨(1 + z0 % 6).toNat, by omega⟩
  have h1 : 1 ≤ n := by omega
  have h8 : n ≤ 8 := by omega
  show gName 1 (V.int (1 + z0 % 6)) _ _ _
  rw [hn]
  clear hn
  dsimp only [gName]
  refine tseq_join (fun σ' H' => ∃ n : Nat, 1 ≤ n ∧ n ≤ 8 ∧ H = H' ∧ σ' = [some (.ref a), some (.int n), none, none, none, none, none, none]) (fun D' _ hj => ?_) ?_
  · refine ⟨_, rfl, a, ns, 0, rfl, hS, by decide, fun z => ⟨_, _, rfl, rfl, ⟨by decide, by decide⟩, _, _, rfl, rfl, (by show (0 : Int) < 16; decide), rfl, _, rfl, ite2 (fun _ => ?_) (fun _ => hj _ _ ⟨n, h1, h8, rfl, rfl⟩)⟩⟩
    exact hj _ _ ⟨7, by decide, by decide, rfl, rfl⟩
  clear h1 h8
  rintro _ _ ⟨n, h1, h8, rfl, rfl⟩
  refine tseq_join (fun σ' H' => ∃ n : Nat, 1 ≤ n ∧ n ≤ 8 ∧ H = H' ∧ σ' = [some (.ref a), some (.int n), none, none, none, none, none, none]) (fun D' _ hj => ?_) ?_
  · refine ⟨_, rfl, a, ns, 0, rfl, hS, by decide, fun z => ⟨_, _, rfl, rfl, ⟨by decide, by decide⟩, _, _, rfl, rfl, (by show (0 : Int) < 256; decide), rfl, _, rfl, ite2 (fun _ => ?_) (fun _ => hj _ _ ⟨n, h1, h8, rfl, rfl⟩)⟩⟩
    exact hj _ _ ⟨8, by decide, by decide, rfl, rfl⟩
  clear h1 h8
  rintro _ _ ⟨n, h1, h8, rfl, rfl⟩
  refine ⟨_, rfl, a, ns, 1, rfl, hS, by decide, fun z1 => ⟨_, rfl, z1, n, rfl, by omega, fun g H1 gs hg0 s1 hgs hLg => ?_⟩⟩
  have hR : Rd n gs := hgs
  refine ⟨_, rfl, _, rfl, g, gs, n, rfl, hLg, hR, h8, fun b H2 hb0 s2 hb => ?_⟩
  refine ⟨_, rfl, _, rfl, _, rfl, g, b, gs, n, rfl, hLg.same s2, hR, h8, hb, fun o H3 ho0 s3 ho => ?_⟩
  have hb3 := s3 _ _ hb
  have hLg3 := hLg.same (s2.trans s3)
  obtain ⟨us, hg, hps⟩ := id hLg3
  refine ⟨_, rfl, g, us, rfl, .inl (SqL.of hg), fun hd hhd0 => ?_⟩
  have t4 : Same H3 (upd H3 hd (.lst us)) := Same.new hhd0
  have hLh : LP (upd H3 hd (.lst us)) hd gs := ⟨us, upd_same, Ps.mono t4.ts hps⟩
  have hLg4 := hLg3.same t4
  have hb4 := t4 _ _ hb3
  have ho4 : LI (upd H3 hd (.lst us)) o (opt gs (rng n)).2 := t4 _ _ ho
  generalize upd H3 hd (.lst us) = H4 at hLh hLg4 hb4 ho4 ⊢
  have hpos : 0 < 2 ^ n := Nat.pow_pos (by decide)
  refine ⟨2, rfl, by decide, by decide, for_range (fun i σ H5 => ∃ (v6 v7 : Option V), σ = [some (.ref a), some (.int n), some (.ref g), some (.ref b), some (.ref o), some (.ref hd), v6, v7] ∧ Same H4 H5) ⟨none, none, rfl, Same.refl _⟩ ?_ ?_⟩
  · rintro i σ H5 _ ⟨v6, v7, rfl, s5⟩
    refine ⟨_, rfl, _, rfl, hd, gs, n, rfl, hLh.same s5, hR, h1, h8, fun r a' H6 s6 hr6 ha6 h0a => ?_⟩
    have s46 := s5.trans s6
    refine ⟨_, rfl, _, _, _, _, rfl, TyOf.tup hr6, kit_tt K, _, rfl, iteF ?_⟩
    refine ⟨_, rfl, r, _, rfl, .inr (SqT.of hr6), rfl, _, rfl, iteF ?_⟩
    refine ⟨_, rfl, r, _, 0, _, rfl, rfl, SqT.of hr6, rfl, _, _, _, _, rfl, TyOf.int _, kit_ib K, _, rfl, iteF ?_⟩
    refine ⟨_, rfl, _, rfl, _, _, LP.den (hLh.same s46), LP.den (hLg4.same s46), shaped_pds _, shaped_pds _, _, rfl, ?_⟩
    rw [eqv_pds]
    refine iteF ?_
    refine ⟨_, rfl, r, _, 0, _, rfl, rfl, SqT.of hr6, rfl, _, rfl, _, rfl, b, _, rfl, .inl (SqL.of (s46 _ _ hb4)), _, _, rfl, rfl, b, _, _, .int (opt gs (rng n)).1, rfl, rfl, SqL.of (s46 _ _ hb4), ?_, rfl, _, rfl, ?_⟩
    · rw [List.length_map, tblF_len, show ((2 ^ n : Nat) : Int) - 1 = ((2 ^ n - 1 : Nat) : Int) by omega]
      have z := tblF_at (gs := gs) (n := n) (show 2 ^ n - 1 < 2 ^ n by omega)
      rw [ins_all h8] at z
      exact atI_nat (map_at z)
    rw [show decide (V.int (opt gs (rng n)).1 = V.int (opt gs (rng n)).1) = true from decide_eq_true rfl]
    refine iteF ?_
    refine ⟨_, rfl, r, _, 1, _, rfl, rfl, SqT.of hr6, rfl, _, _, _, _, rfl, TyOf.lst ha6, kit_ll K, _, rfl, iteF ?_⟩
    refine ⟨_, rfl, r, _, 1, _, rfl, rfl, SqT.of hr6, rfl, _, rfl, _, _, LI.den ha6, LI.den (LI.same s46 ho4), shaped_ints _, shaped_ints _, _, rfl, ?_⟩
    rw [eqv_ints]
    refine iteF ?_
    refine ⟨_, rfl, r, _, 1, _, rfl, rfl, SqT.of hr6, rfl, .inl ⟨rfl, _, SqL.of ha6⟩, a', _, rfl, rfl, ha6, _, _, rfl, s5.trans (s6.put h0a)⟩
  · rintro σ H5 ⟨v6, v7, rfl, s5⟩
    exact q _
end
end KX
set_option Elab.async false
set_option linter.all false
set_option maxRecDepth 100000
set_option maxHeartbeats 4000000
namespace KX
open PySem L2 Pa
theorem walk {l : PySem.W.OpenLaw} {q : Program} {loose : List Str} {XP : (Str → Option Value) → Heap → Prop} {YP : World → Heap → Prop} {d : DefRec} {K : Params → PySem.W.Frag} (hn : l.most = some 63) (hdf : d.params.defaults = [])
    (hY : ∀ (w : World) (h : Heap), YP w h → (K w.params).In h) (hd : d.name = "law")
    (F : ∀ (w : World) (mg : Str → Option Value) (h : Heap), (K w.params).In h → h.Ns mainGlobals mg → Nonempty (Ds (K w.params) mg) ∧ Nm mg) :
    PySem.W.WalkO q loose XP YP l.row.toRowW d [] (fun f vs => PySem.call f vs) := by
  refine L2.walk_of (n := 63) (k := 11) (x := "_law_script") (CX := fun _ => CX0) (sp := fun w => spLaw (K w.params)) hn (by decide) hdf ⟨rfl, by decide, by decide⟩ hY ?_ (fun _ _ a ns hl _ hS => ⟨a, ns, rfl, hS, fun _ => rfl⟩) fun _ _ _ _ _ z => z
  intro w mg fa h KY G hmg
  obtain ⟨⟨D⟩, N⟩ := F w mg h KY G
  rw [hd] at hmg
  have e := D.law.m.symm.trans hmg
  have e2 : D.law.a = fa := by injection e with e; injection e with e
  subst e2
  exact ⟨D.law.d, fun s u => .of_eq (D.law.e [u] rfl), fun base _ _ => ok_law D N⟩
end KX
open PySem PySem.W PyProof.Rows
set_option maxRecDepth 100000 in
set_option maxHeartbeats 0 in
theorem PySem.Challenge.cw_playedall_k12_whole_fewest_holds : PySem.Challenge.rw_playedall_k12_whole_fewest.Holds := by
  w_on; o_law; k_head; (case hw => w_witness2)
  k_fill
  refine KX.walk (l := PySem.Challenge.rw_playedall_k12_whole_fewest) rfl rfl (fun w h Y => PySem.W.kIn_of Y) rfl ?F
  case F =>
    intro w mg h KY G
    have t_is_number : Nonempty (L2.DefAt (L2.KOf KY) mg "is_number" KX.sD_is_number ["value", "least", "most"]) := by
      dsimp only [L2.KOf]
      refine' ⟨L2.DefAt.of KY G ?a ?l ?c ?k (fun _ _ _ _ _ _ us hl => by obtain ⟨x0, x1, x2, rfl⟩ := L2.len_3 hl; rfl)⟩
      (case a => k_is); (case l => k_is); (case c => k_is); (case k => k_is)
    obtain ⟨t_is_number⟩ := t_is_number
    have t_is_player : Nonempty (L2.DefAt (L2.KOf KY) mg "is_player" KX.sD_is_player ["value", "players"]) := by
      dsimp only [L2.KOf]
      refine' ⟨L2.DefAt.of KY G ?a ?l ?c ?k (fun _ _ _ _ _ _ us hl => by obtain ⟨x0, x1, rfl⟩ := L2.len_2 hl; rfl)⟩
      (case a => k_is); (case l => k_is); (case c => k_is); (case k => k_is)
    obtain ⟨t_is_player⟩ := t_is_player
    have t_is_won_game : Nonempty (L2.DefAt (L2.KOf KY) mg "is_won_game" KX.sD_is_won_game ["pair", "players"]) := by
      dsimp only [L2.KOf]
      refine' ⟨L2.DefAt.of KY G ?a ?l ?c ?k (fun _ _ _ _ _ _ us hl => by obtain ⟨x0, x1, rfl⟩ := L2.len_2 hl; rfl)⟩
      (case a => k_is); (case l => k_is); (case c => k_is); (case k => k_is)
    obtain ⟨t_is_won_game⟩ := t_is_won_game
    have t_game_of : Nonempty (L2.DefAt (L2.KOf KY) mg "game_of" KX.sD_game_of ["pair"]) := by
      dsimp only [L2.KOf]
      refine' ⟨L2.DefAt.of KY G ?a ?l ?c ?k (fun _ _ _ _ _ _ us hl => by obtain ⟨x0, rfl⟩ := L2.len_1 hl; rfl)⟩
      (case a => k_is); (case l => k_is); (case c => k_is); (case k => k_is)
    obtain ⟨t_game_of⟩ := t_game_of
    have t_is_begun : Nonempty (L2.DefAt (L2.KOf KY) mg "is_begun" KX.sD_is_begun ["begun", "players"]) := by
      dsimp only [L2.KOf]
      refine' ⟨L2.DefAt.of KY G ?a ?l ?c ?k (fun _ _ _ _ _ _ us hl => by obtain ⟨x0, x1, rfl⟩ := L2.len_2 hl; rfl)⟩
      (case a => k_is); (case l => k_is); (case c => k_is); (case k => k_is)
    obtain ⟨t_is_begun⟩ := t_is_begun
    have t_check_players : Nonempty (L2.DefAt (L2.KOf KY) mg "check_players" KX.sD_check_players ["players"]) := by
      dsimp only [L2.KOf]
      refine' ⟨L2.DefAt.of KY G ?a ?l ?c ?k (fun _ _ _ _ _ _ us hl => by obtain ⟨x0, rfl⟩ := L2.len_1 hl; rfl)⟩
      (case a => k_is); (case l => k_is); (case c => k_is); (case k => k_is)
    obtain ⟨t_check_players⟩ := t_check_players
    have t_check_begun : Nonempty (L2.DefAt (L2.KOf KY) mg "check_begun" KX.sD_check_begun ["begun", "players"]) := by
      dsimp only [L2.KOf]
      refine' ⟨L2.DefAt.of KY G ?a ?l ?c ?k (fun _ _ _ _ _ _ us hl => by obtain ⟨x0, x1, rfl⟩ := L2.len_2 hl; rfl)⟩
      (case a => k_is); (case l => k_is); (case c => k_is); (case k => k_is)
    obtain ⟨t_check_begun⟩ := t_check_begun
    have t_all_games : Nonempty (L2.DefAt (L2.KOf KY) mg "all_games" KX.sD_all_games ["players"]) := by
      dsimp only [L2.KOf]
      refine' ⟨L2.DefAt.of KY G ?a ?l ?c ?k (fun _ _ _ _ _ _ us hl => by obtain ⟨x0, rfl⟩ := L2.len_1 hl; rfl)⟩
      (case a => k_is); (case l => k_is); (case c => k_is); (case k => k_is)
    obtain ⟨t_all_games⟩ := t_all_games
    have t_check_round : Nonempty (L2.DefAt (L2.KOf KY) mg "check_round" KX.sD_check_round ["games", "players"]) := by
      dsimp only [L2.KOf]
      refine' ⟨L2.DefAt.of KY G ?a ?l ?c ?k (fun _ _ _ _ _ _ us hl => by obtain ⟨x0, x1, rfl⟩ := L2.len_2 hl; rfl)⟩
      (case a => k_is); (case l => k_is); (case c => k_is); (case k => k_is)
    obtain ⟨t_check_round⟩ := t_check_round
    have t_best_of : Nonempty (L2.DefAt (L2.KOf KY) mg "best_of" KX.sD_best_of ["some", "games", "known"]) := by
      dsimp only [L2.KOf]
      refine' ⟨L2.DefAt.of KY G ?a ?l ?c ?k (fun _ _ _ _ _ _ us hl => by obtain ⟨x0, x1, x2, rfl⟩ := L2.len_3 hl; rfl)⟩
      (case a => k_is); (case l => k_is); (case c => k_is); (case k => k_is)
    obtain ⟨t_best_of⟩ := t_best_of
    have t_fewest : Nonempty (L2.DefAt (L2.KOf KY) mg "fewest" KX.sD_fewest ["games", "players"]) := by
      dsimp only [L2.KOf]
      refine' ⟨L2.DefAt.of KY G ?a ?l ?c ?k (fun _ _ _ _ _ _ us hl => by obtain ⟨x0, x1, rfl⟩ := L2.len_2 hl; rfl)⟩
      (case a => k_is); (case l => k_is); (case c => k_is); (case k => k_is)
    obtain ⟨t_fewest⟩ := t_fewest
    have t_law_cell_at : Nonempty (L2.DefAt (L2.KOf KY) mg "_law_cell_at" KX.sD_law_cell_at ["_law_script", "_law_k"]) := by
      dsimp only [L2.KOf]
      refine' ⟨L2.DefAt.of KY G ?a ?l ?c ?k (fun _ _ _ _ _ _ us hl => by obtain ⟨x0, x1, rfl⟩ := L2.len_2 hl; rfl)⟩
      (case a => k_is); (case l => k_is); (case c => k_is); (case k => k_is)
    obtain ⟨t_law_cell_at⟩ := t_law_cell_at
    have t_law_mixed : Nonempty (L2.DefAt (L2.KOf KY) mg "_law_mixed" KX.sD_law_mixed ["_law_cell", "_law_k"]) := by
      dsimp only [L2.KOf]
      refine' ⟨L2.DefAt.of KY G ?a ?l ?c ?k (fun _ _ _ _ _ _ us hl => by obtain ⟨x0, x1, rfl⟩ := L2.len_2 hl; rfl)⟩
      (case a => k_is); (case l => k_is); (case c => k_is); (case k => k_is)
    obtain ⟨t_law_mixed⟩ := t_law_mixed
    have t_law_first_wins : Nonempty (L2.DefAt (L2.KOf KY) mg "_law_first_wins" KX.sD_law_first_wins ["_law_cell", "_law_one", "_law_other", "_law_players"]) := by
      dsimp only [L2.KOf]
      refine' ⟨L2.DefAt.of KY G ?a ?l ?c ?k (fun _ _ _ _ _ _ us hl => by obtain ⟨x0, x1, x2, x3, rfl⟩ := L2.len_4 hl; rfl)⟩
      (case a => k_is); (case l => k_is); (case c => k_is); (case k => k_is)
    obtain ⟨t_law_first_wins⟩ := t_law_first_wins
    have t_law_round_by : Nonempty (L2.DefAt (L2.KOf KY) mg "_law_round_by" KX.sD_law_round_by ["_law_cell", "_law_players"]) := by
      dsimp only [L2.KOf]
      refine' ⟨L2.DefAt.of KY G ?a ?l ?c ?k (fun _ _ _ _ _ _ us hl => by obtain ⟨x0, x1, rfl⟩ := L2.len_2 hl; rfl)⟩
      (case a => k_is); (case l => k_is); (case c => k_is); (case k => k_is)
    obtain ⟨t_law_round_by⟩ := t_law_round_by
    have t_law_table : Nonempty (L2.DefAt (L2.KOf KY) mg "_law_table" KX.sD_law_table ["_law_games", "_law_players"]) := by
      dsimp only [L2.KOf]
      refine' ⟨L2.DefAt.of KY G ?a ?l ?c ?k (fun _ _ _ _ _ _ us hl => by obtain ⟨x0, x1, rfl⟩ := L2.len_2 hl; rfl)⟩
      (case a => k_is); (case l => k_is); (case c => k_is); (case k => k_is)
    obtain ⟨t_law_table⟩ := t_law_table
    have t_law_first_order : Nonempty (L2.DefAt (L2.KOf KY) mg "_law_first_order" KX.sD_law_first_order ["_law_games", "_law_players", "_law_best"]) := by
      dsimp only [L2.KOf]
      refine' ⟨L2.DefAt.of KY G ?a ?l ?c ?k (fun _ _ _ _ _ _ us hl => by obtain ⟨x0, x1, x2, rfl⟩ := L2.len_3 hl; rfl)⟩
      (case a => k_is); (case l => k_is); (case c => k_is); (case k => k_is)
    obtain ⟨t_law_first_order⟩ := t_law_first_order
    have t_law : Nonempty (L2.DefAt (L2.KOf KY) mg "law" KX.sD_law ["_law_script"]) := by
      dsimp only [L2.KOf]
      refine' ⟨L2.DefAt.of KY G ?a ?l ?c ?k (fun _ _ _ _ _ _ us hl => by obtain ⟨x0, rfl⟩ := L2.len_1 hl; rfl)⟩
      (case a => k_is); (case l => k_is); (case c => k_is); (case k => k_is)
    obtain ⟨t_law⟩ := t_law
    have n_bool : PySem.W.nsIn (L2.KOf KY) mainGlobals "bool" = some none := by
      dsimp only [L2.KOf]
      k_is
    have n_int : PySem.W.nsIn (L2.KOf KY) mainGlobals "int" = some none := by
      dsimp only [L2.KOf]
      k_is
    have n_isinstance : PySem.W.nsIn (L2.KOf KY) mainGlobals "isinstance" = some none := by
      dsimp only [L2.KOf]
      k_is
    have n_len : PySem.W.nsIn (L2.KOf KY) mainGlobals "len" = some none := by
      dsimp only [L2.KOf]
      k_is
    have n_list : PySem.W.nsIn (L2.KOf KY) mainGlobals "list" = some none := by
      dsimp only [L2.KOf]
      k_is
    have n_max : PySem.W.nsIn (L2.KOf KY) mainGlobals "max" = some none := by
      dsimp only [L2.KOf]
      k_is
    have n_min : PySem.W.nsIn (L2.KOf KY) mainGlobals "min" = some none := by
      dsimp only [L2.KOf]
      k_is
    have n_range : PySem.W.nsIn (L2.KOf KY) mainGlobals "range" = some none := by
      dsimp only [L2.KOf]
      k_is
    have n_sum : PySem.W.nsIn (L2.KOf KY) mainGlobals "sum" = some none := by
      dsimp only [L2.KOf]
      k_is
    have n_tuple : PySem.W.nsIn (L2.KOf KY) mainGlobals "tuple" = some none := by
      dsimp only [L2.KOf]
      k_is
    have g_MOST_PLAYERS : ∃ u : Value, mg "MOST_PLAYERS" = some u ∧ L2.RelV (.int 10) u := by
      refine' ⟨_, PySem.W.mg_of KY G ?a_MOST_PLAYERS, ?b_MOST_PLAYERS⟩
      (case a_MOST_PLAYERS => k_is)
      exact ⟨_, rfl⟩
    obtain ⟨u_MOST_PLAYERS, g_MOST_PLAYERS, r_MOST_PLAYERS⟩ := g_MOST_PLAYERS
    have g_MOST_ORDERED : ∃ u : Value, mg "MOST_ORDERED" = some u ∧ L2.RelV (.int 8) u := by
      refine' ⟨_, PySem.W.mg_of KY G ?a_MOST_ORDERED, ?b_MOST_ORDERED⟩
      (case a_MOST_ORDERED => k_is)
      exact ⟨_, rfl⟩
    obtain ⟨u_MOST_ORDERED, g_MOST_ORDERED, r_MOST_ORDERED⟩ := g_MOST_ORDERED
    exact ⟨⟨{ is_number := t_is_number, is_player := t_is_player, is_won_game := t_is_won_game, game_of := t_game_of, is_begun := t_is_begun, check_players := t_check_players, check_begun := t_check_begun, all_games := t_all_games, check_round := t_check_round, best_of := t_best_of, fewest := t_fewest, law_cell_at := t_law_cell_at, law_mixed := t_law_mixed, law_first_wins := t_law_first_wins, law_round_by := t_law_round_by, law_table := t_law_table, law_first_order := t_law_first_order, law := t_law, u_MOST_PLAYERS := u_MOST_PLAYERS, g_MOST_PLAYERS := g_MOST_PLAYERS, r_MOST_PLAYERS := r_MOST_PLAYERS, u_MOST_ORDERED := u_MOST_ORDERED, g_MOST_ORDERED := g_MOST_ORDERED, r_MOST_ORDERED := r_MOST_ORDERED }⟩, ⟨PySem.W.mg_none_of KY G n_bool, PySem.W.mg_none_of KY G n_int, PySem.W.mg_none_of KY G n_isinstance, PySem.W.mg_none_of KY G n_len, PySem.W.mg_none_of KY G n_list, PySem.W.mg_none_of KY G n_max, PySem.W.mg_none_of KY G n_min, PySem.W.mg_none_of KY G n_range, PySem.W.mg_none_of KY G n_sum, PySem.W.mg_none_of KY G n_tuple⟩⟩
#print axioms PySem.Challenge.cw_playedall_k12_whole_fewest_holds

